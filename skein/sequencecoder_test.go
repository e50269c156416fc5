package skein_test

import (
	"fmt"
	"math/bits"
	"strings"

	"skein/api"
	"skein/codes"
)

// table is a table of states as a block gives it: the way, the bytes of the description, and the states.
type table struct {
	way    int
	bytes  string
	states []api.State
}

// tables are those for lengths, offsets and matches.
type tables [3]table

func agreed(part int) table {
	states, _ := codes.States(5, agreedCounts[part])
	return table{0, "", states}
}

func single(symbol int) table {
	return table{1, little(symbol, 1), []api.State{{Symbol: symbol}}}
}

func counted(log int, counts ...int) table {
	states, _ := codes.States(log, counts)
	return table{2, countBytes(log, counts), states}
}

// countBytes writes counts as they are, right or wrong.
func countBytes(log int, counts []int) string {
	text := little(log+16*(len(counts)-1), 1)
	for _, count := range counts {
		text += little(count, 1)
	}
	return text
}

// again is the same table, told to be the last one.
func (t table) again() table {
	return table{3, "", t.states}
}

func (t tables) again() tables {
	return tables{t[0].again(), t[1].again(), t[2].again()}
}

func singles(length, offset, match int) tables {
	return tables{single(length), single(offset), single(match)}
}

func allAgreed() tables {
	return tables{agreed(0), agreed(1), agreed(2)}
}

// head writes the number of sequences, the ways and the descriptions.
func (t tables) head(number int) string {
	ways, text := 0, ""
	for part, given := range t {
		ways += given.way << (2 * part)
		text += given.bytes
	}
	return little(number, 1) + little(ways, 1) + text
}

// sequence is one as it is written: the number of literals, the value that stands for the offset, and the match's
// length.
type sequence struct {
	length, value, match int
}

// binary writes a number in n noughts and ones.
func binary(v, n int) string {
	return fmt.Sprintf("%0*b", n+1, v+1<<n)[1:]
}

// lengthSymbol tells the symbol of a length and its extra bits.
func lengthSymbol(length int) (int, string) {
	if length < 8 {
		return length, ""
	}
	extra := 1
	for 1<<(extra+1)+6 <= length {
		extra++
	}
	return extra + 7, binary(length-6-1<<extra, extra)
}

func valueSymbol(v int) (int, string) {
	c := bits.Len(uint(v)) - 1
	return c, binary(v-1<<c, c)
}

// pathOf finds the states of some symbols, from the last one back to the first: to each state one of each symbol
// leads.
func pathOf(states []api.State, symbols []int) []int {
	path := make([]int, len(symbols))
	for i := len(symbols) - 1; i >= 0; i-- {
		path[i] = -1
		for place, s := range states {
			leads := i == len(symbols)-1 || s.Base <= path[i+1] && path[i+1] < s.Base+1<<s.Bits
			if s.Symbol == symbols[i] && leads {
				path[i] = place
			}
		}
		if path[i] < 0 {
			panic(fmt.Sprintf("no state of the symbol %d", symbols[i]))
		}
	}
	return path
}

// logOf is how many bits tell the first state.
func logOf(states []api.State) int {
	return bits.Len(uint(len(states))) - 1
}

// coded writes the bits of sequences.
func (t tables) coded(list []sequence) string {
	var parts [3][]int
	var extra []string
	for _, s := range list {
		length, lengthBits := lengthSymbol(s.length)
		offset, offsetBits := valueSymbol(s.value)
		match, matchBits := lengthSymbol(s.match - 3)
		for part, symbol := range []int{length, offset, match} {
			parts[part] = append(parts[part], symbol)
		}
		extra = append(extra, offsetBits+matchBits+lengthBits)
	}
	var paths [3][]int
	text := ""
	for part := range 3 {
		paths[part] = pathOf(t[part].states, parts[part])
		text += binary(paths[part][0], logOf(t[part].states))
	}
	for i := range list {
		text += extra[i]
		if i == len(list)-1 {
			break
		}
		for _, part := range []int{0, 2, 1} {
			state := t[part].states[paths[part][i]]
			text += binary(paths[part][i+1]-state.Base, state.Bits)
		}
	}
	return text
}

// with writes all of the bytes behind the literals.
func (t tables) with(list ...sequence) string {
	return t.head(len(list)) + bitBytes(t.coded(list))
}

// packedFrame puts packed blocks together to a frame, behind its header.
func packedFrame(header string, blocks ...string) string {
	text := "SKN1" + header
	for i, b := range blocks {
		text += packedBlock(i == len(blocks)-1, b)
	}
	return text
}

// back writes a match out.
func back(all string, offset, length int) string {
	match := all[len(all)-offset:]
	return all + strings.Repeat(match, length/offset+1)[:length]
}
