// Package codes: tables of states, and codes of literals: see DOC.md.
package codes

import (
	"math/bits"

	"skein/api"
)

// Codes makes the codes of literals of weights (P5).
func Codes(weights []int) ([]api.Code, api.Errno) {
	if !inBounds(weights) {
		return nil, api.ErrFormat
	}
	total := totalOf(weights)
	longest := bits.Len(uint(total))
	rest := 1<<longest - total
	if total == 0 || longest > api.MaxBits || rest&(rest-1) != 0 {
		return nil, api.ErrFormat
	}
	return giveCodes(withLast(weights, bits.Len(uint(rest))), longest), api.OK
}

func inBounds(weights []int) bool {
	if len(weights) == 0 || len(weights) > api.MaxWeights {
		return false
	}
	for _, weight := range weights {
		if weight < 0 || weight > api.MaxBits {
			return false
		}
	}
	return true
}

func totalOf(weights []int) int {
	total := 0
	for _, weight := range weights {
		total += span(weight)
	}
	return total
}

// span is how many numbers of the greatest length begin with a code of this weight.
func span(weight int) int {
	if weight == 0 {
		return 0
	}
	return 1 << (weight - 1)
}

// withLast copies, since the caller's list may have spare room that an append would write into.
func withLast(weights []int, last int) []int {
	all := make([]int, len(weights)+1)
	copy(all, weights)
	all[len(weights)] = last
	return all
}

// giveCodes gives the codes out one behind the other. All spans together fill 2^longest, so that at each weight
// the spans of the lower ones end at a multiple of its own: the shift loses nothing.
func giveCodes(weights []int, longest int) []api.Code {
	var codes []api.Code
	start := 0
	for weight := 1; weight <= longest; weight++ {
		for value, w := range weights {
			if w != weight {
				continue
			}
			codes = append(codes, api.Code{Value: value, Bits: longest + 1 - weight, Number: start >> (weight - 1)})
			start += span(weight)
		}
	}
	return codes
}
