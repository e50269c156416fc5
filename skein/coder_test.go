package skein_test

import (
	"math/rand"
	"slices"
	"strings"
)

// literalsHead puts the first two bytes of literals together.
func literalsHead(kind, n int) string {
	return little(kind+4*n, 2)
}

func plainLiterals(s string) string {
	return literalsHead(0, len(s)) + s
}

func repeatedLiterals(n int, letter string) string {
	return literalsHead(1, n) + letter
}

// freshLiterals are those that bring their codes, lastLiterals those that lean on codes of the same weights.
func freshLiterals(weights []int, s string) string {
	return literalsHead(2, len(s)) + weightBytes(weights) + coded(weights, s)
}

func lastLiterals(weights []int, s string) string {
	return literalsHead(3, len(s)) + coded(weights, s)
}

func weightBytes(weights []int) string {
	halves := append(slices.Clone(weights), 0)
	text := little(len(weights), 1)
	for i := 0; i < len(weights); i += 2 {
		text += little(halves[i]+16*halves[i+1], 1)
	}
	return text
}

// coded writes the codes of some literals, behind the number of their bytes.
func coded(weights []int, s string) string {
	bitsOf := map[int]string{}
	for bits, v := range codesOf(weights) {
		bitsOf[v] = bits
	}
	var all strings.Builder
	for _, b := range []byte(s) {
		all.WriteString(bitsOf[int(b)])
	}
	return sizedBits(all.String())
}

// sizedBits puts noughts and ones into bytes, behind the number of these.
func sizedBits(bits string) string {
	bytes := bitBytes(bits)
	return little(len(bytes), 2) + bytes
}

// bitBytes puts noughts and ones into bytes, of each byte the highest bit first.
func bitBytes(bits string) string {
	text := ""
	for ; bits != ""; bits = bits[min(8, len(bits)):] {
		b := 0
		for _, digit := range (bits + "0000000")[:8] {
			b = 2*b + int(digit-'0')
		}
		text += little(b, 1)
	}
	return text
}

// drawWeights draws a tree of codes, and gives the weights of all values but the last one.
func drawWeights(r *rand.Rand) []int {
	depths := []int{1, 1}
	for range r.Intn(20) {
		i := r.Intn(len(depths))
		if depths[i] == 8 {
			continue
		}
		depths[i]++
		depths = slices.Insert(depths, r.Intn(len(depths)+1), depths[i])
	}
	b := slices.Max(depths) + r.Intn(9-slices.Max(depths))
	var weights []int
	for _, depth := range depths[:len(depths)-1] {
		for r.Intn(4) == 0 {
			weights = append(weights, 0)
		}
		weights = append(weights, b+1-depth)
	}
	return weights
}

// drawLiterals draws a text of values that have codes.
func drawLiterals(r *rand.Rand, weights []int, n int) string {
	var values []int
	for _, v := range codesOf(weights) {
		values = append(values, v)
	}
	slices.Sort(values)
	text := ""
	for range n {
		text += little(values[r.Intn(len(values))], 1)
	}
	return text
}
