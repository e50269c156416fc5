package skein_test

import (
	"strings"
	"testing"

	"skein/api"
	"skein/skein"
)

// wantRight holds that a stream is right, and that its content is the model's.
func wantRight(t *testing.T, what string, c api.Config, text string) {
	t.Helper()
	want := modelOf(c, text, true)
	if want.e != api.End {
		t.Fatalf("%s: to the model %q is wrong: %v", what, text, want)
	}
	check(t, c, stream{what, text, want.content, api.OK, want.at.Frame, 0})
}

func TestSixthExample(t *testing.T) {
	text := "SKN1\x00\x4d\x00\x08\x00ab\x01\x15\x02\x00\x03"
	check(t, widest, stream{"example 6", text, "abbbbbbb", api.OK, 1, 0})
}

// Blocks written by hand, behind "ab".
func TestSequencesByHand(t *testing.T) {
	twoSymbols := "\x15\x10\x10" // log 5, two counts: 16, 16
	for _, c := range []struct{ what, bytes, want string }{
		{"no literals are left", "\x04\x00x\x01\x15\x01\x00\x00", "xxxx"},
		{"literals are left", "\x10\x00wxyz\x01\x15\x02\x00\x00", "wxxxxyz"},
		{"three sequences of single states, without bits", "\x0c\x00xyz\x03\x15\x01\x00\x00", "xxxxyyyyzzzz"},
		{"a repeated literal", "\x0d\x00x\x01\x15\x01\x00\x00", "xxxxxx"},
		{"coded literals", "\x0e\x00\x01\x01\x01\x00\x40\x01\x15\x02\x00\x00", "\x00\x01\x01\x01\x01\x00"},
		{"no literals at all", "\x00\x00\x01\x15\x00\x02\x00\x40", "aba"},
		// Offset: 4 and 01, which is 2 back; match: 10 and 10, and 3: 15; length: 8 and 1: 9.
		{"extra bits of offset, match and length, in this order", "\x24\x00rstuvwxyz\x01\x15\x08\x02\x09\x68", "rstuvwxyz" + "yzyzyzyzyzyzyzy"},
		// The states 4, 1, 4: length 1, value 1, match 4; a nought leads from each of them to 2, of the symbol 0, a one
		// to 3, of the symbol 1. Then 1, 0, 1: length 1, match 3, and of the offset a bit, 0: the value 2, 4 back.
		{"the states of lengths, matches and offsets, in this order", "\x0c\x00xyz\x02\x2a" + twoSymbols + twoSymbols + twoSymbols + "\x20\x49\x40", "xxxxx" + "yxxx" + "z"},
		// The same, but 0, 1, 0: length 0, match 4, the value 1, and, as the length is 0, 4 back.
		{"other next states", "\x0c\x00xyz\x02\x2a" + twoSymbols + twoSymbols + twoSymbols + "\x20\x48\x80", "xxxxx" + "xxxx" + "yz"},
		// The states 9 of lengths, 20 of offsets, 1 of matches: the symbols 15, 4, 1: the value 16 and 6, 19 back;
		// match 4; 262 and 3 literals.
		{"the agreed tables", literalsHead(1, 266) + "x\x01\x00" + bitBytes("01001"+"10100"+"00001"+"0110"+"00000011"), strings.Repeat("x", 266+4)},
	} {
		wantContent(t, c.what, c.bytes, c.want)
	}
}

// Two blocks, whose tables are given in each of the ways: three for the first one, four for the second.
func TestTablesInEachWay(t *testing.T) {
	list := []sequence{{2, 2, 6}, {2, 3, 6}, {2, 2, 6}}
	pick := func(part, n int) table {
		return []table{agreed(part), single([]int{2, 1, 3}[part]), counted(6, 4, 12, 16, 32)}[n]
	}
	for first := range 27 {
		one := tables{pick(0, first%3), pick(1, first/3%3), pick(2, first/9)}
		for second := range 64 {
			var two tables
			for part := range 3 {
				if n := second >> (2 * part) % 4; n < 3 {
					two[part] = pick(part, n)
				} else {
					two[part] = one[part].again()
				}
			}
			text := packedFrame("\x00", plainLiterals("some text")+"\x00", plainLiterals("ABCDEFGH")+one.with(list...), plainLiterals("abcdefgh")+two.with(list...))
			// The last offsets go 1 4 8, 4 1 8, 8 4 1, 4 8 1, and on 8 4 1, 1 8 4, 8 1 4.
			want := back("some text"+"AB", 4, 6)
			want = back(want+"CD", 8, 6)
			want = back(want+"EF", 4, 6) + "GH"
			want = back(want+"ab", 8, 6)
			want = back(want+"cd", 1, 6)
			want = back(want+"ef", 8, 6) + "gh"
			check(t, widest, stream{"tables in two ways", text, want, api.OK, 1, 0})
		}
	}
}

// tablesOf are tables of each way for a part, in all of which some symbol of 0 to 3 is found, and it.
func tablesOf(part int) []struct {
	table
	symbol int
} {
	return []struct {
		table
		symbol int
	}{
		{agreed(part), 3},
		{single(2), 2},
		{counted(5, 20, -1, 0, 11), 1},
		{counted(6, 3, 0, 60, -1), 0},
	}
}

// between are blocks without sequences, which have no tables.
func between() string {
	return rawBlock(false, "c") + runBlock(false, 2, "d") + packedBlock(false, plainLiterals("e")+"\x00") + packedBlock(false, freshLiterals([]int{1}, "\x01")+"\x00")
}

// For each part the last table is found again, in whichever way it and the one ahead of it had been given.
func TestTablesOfEarlierBlocks(t *testing.T) {
	others := [3]int{1, 0, 2}
	for part := range 3 {
		write := func(now table, symbol int, again bool) string {
			chosen, used := singles(others[0], others[1], others[2]), others
			if again {
				chosen = chosen.again()
			}
			chosen[part], used[part] = now, symbol
			s := sequence{used[0], 1 << used[1], used[2] + 3}
			return packedBlock(false, plainLiterals("stuvwxyz")+chosen.with(s, s))
		}
		for _, earlier := range tablesOf(part) {
			for _, last := range tablesOf(part) {
				text := "SKN1\x00" + rawBlock(false, "0123456789") + write(earlier.table, earlier.symbol, false) + between()
				text += write(last.table, last.symbol, true) + between()
				text += write(last.again(), last.symbol, true) + between() + between() + write(last.again(), last.symbol, false)
				wantRight(t, "the last table", widest, text+rawBlock(true, ""))
			}
		}
	}
}

func TestTablesThatAreNotThere(t *testing.T) {
	list := []sequence{{1, 1, 3}, {1, 1, 3}}
	right := singles(1, 0, 0)
	full := packedBlock(false, plainLiterals("xy")+right.with(list...))
	frame := "SKN1\x00" + full + rawBlock(true, "")
	for part := range 3 {
		wrong := right
		wrong[part] = right[part].again()
		block := packedBlock(true, plainLiterals("xy")+wrong.with(list...))
		for _, s := range []stream{
			{"the first block", "SKN1\x00" + block, "", api.ErrFormat, 0, 0},
			{"behind blocks without tables", "SKN1\x00" + between() + block, "cdde\x01", api.ErrFormat, 0, 4},
			{"behind another frame", frame + "SKN1\x00" + block, "xxxxyyyy", api.ErrFormat, 1, 0},
			{"behind another frame and blocks without tables", frame + "SKN1\x00" + between() + block, "xxxxyyyycdde\x01", api.ErrFormat, 1, 4},
			{"behind another frame and a skipped one", frame + "SKIP\x00\x00\x00SKN1\x00" + block, "xxxxyyyy", api.ErrFormat, 2, 0},
			{"ahead of the block that has them", "SKN1\x00" + packedBlock(false, plainLiterals("xy")+wrong.with(list...)) + full, "", api.ErrFormat, 0, 0},
			{"behind the block that has them", "SKN1\x00" + full + block, "xxxxyyyyxxxxyyyy", api.OK, 1, 0},
			{"in a second frame that has them", frame + "SKN1\x00" + full + between() + block, "xxxxyyyyxxxxyyyycdde\x01xxxxyyyy", api.OK, 2, 0},
		} {
			check(t, widest, s)
		}
	}
}

// There is so much content that an offset of the symbol 13 would lie in it, and in the window.
func TestSingleStatesOfEachSymbol(t *testing.T) {
	ahead, _ := plentiful()
	for part := range 3 {
		for symbol := range 256 {
			used := [3]int{1, 0, 0}
			used[part] = symbol
			s, extra := leastOf([3]int{min(20, used[0]), min(20, used[1]), min(20, used[2])})
			literals := strings.Repeat("y", min(500, s.length))
			text := "SKN1\x07" + rawBlocks(ahead) + packedBlock(true, plainLiterals(literals)+singles(used[0], used[1], used[2]).head(1)+bitBytes(extra))
			if symbol < symbols[part] {
				wantRight(t, "a symbol", widest, text)
				continue
			}
			if got, e := skein.Whole(widest, text); got != ahead || e != api.ErrFormat {
				t.Errorf("P10: the symbol %d of the part %d: %q, %d", symbol, part, got[min(len(got), len(ahead)):], e)
			}
		}
	}
}

// A table that has more symbols than there are is wrong, also if they take no place.
func TestCountsOfTooManySymbols(t *testing.T) {
	for part := range 3 {
		for number := 1; number <= 16; number++ {
			for _, last := range []int{0, 1, -1} {
				counts := make([]int, number)
				counts[number-1] = last
				counts[0] = 32 - max(last, -last)
				if number == 1 {
					counts[0] = 32
				}
				chosen := singles(0, 0, 0)
				chosen[part] = counted(5, counts...)
				bytes := plainLiterals("z") + chosen.with(sequence{0, 1, 3})
				text := "SKN1\x00" + rawBlock(false, "abcd") + packedBlock(true, bytes)
				if number > symbols[part] {
					check(t, widest, stream{"too many symbols", text, "abcd", api.ErrFormat, 0, 1})
					continue
				}
				check(t, widest, stream{"as many symbols", text, "abcdabcz", api.OK, 1, 0})
			}
		}
	}
}

func TestCountsThatAreNone(t *testing.T) {
	for part := range 3 {
		try := func(description string, log int, right bool) {
			t.Helper()
			chosen := singles(0, 0, 0)
			chosen[part] = table{2, description, nil}
			bytes := plainLiterals("z") + chosen.head(1) + bitBytes(strings.Repeat("0", log))
			s := stream{"counts", "SKN1\x00" + rawBlock(false, "abcd") + packedBlock(true, bytes), "abcd", api.ErrFormat, 0, 1}
			if right {
				s = stream{"counts", s.text, "abcdabcz", api.OK, 1, 0}
			}
			check(t, widest, s)
		}
		for log := range 16 {
			size := min(1<<log, 254)
			try(countBytes(log, []int{size}), log, log == 5 || log == 6)
			try(countBytes(log, []int{size - 1}), log, false)
			try(countBytes(log, []int{size - 1, -1}), log, log == 5 || log == 6)
			try(countBytes(log, []int{32}), log, log == 5)
			try(countBytes(log, []int{64}), log, log == 6)
		}
		for count := range 256 {
			try(countBytes(5, []int{32, count}), 5, count == 0)
			try(countBytes(6, []int{64, count}), 6, count == 0)
			try(countBytes(5, []int{31, count}), 5, count == 1 || count == 255)
			try(countBytes(6, []int{24, count}), 6, count == 40)
		}
		// Sums that are right modulo 256, and counts that would be right with a sign.
		try(countBytes(5, []int{144, 144}), 5, false)
		try(countBytes(6, []int{160, 160}), 6, false)
		try(countBytes(5, []int{34, 254}), 5, false)
		try(countBytes(5, []int{33, 255}), 5, false)
	}
}

func TestBitsOfTheWaysThatMustBe0(t *testing.T) {
	for _, bytes := range []string{
		plainLiterals("xyz") + singles(1, 0, 0).with(sequence{1, 1, 3}),
		plainLiterals("xyz") + allAgreed().with(sequence{1, 1, 3}, sequence{2, 1, 4}),
		plainLiterals("xyz") + tables{counted(5, 30, 2), single(0), agreed(2)}.with(sequence{1, 1, 3}),
	} {
		wantRight(t, "bits 6 and 7 of 0", widest, "SKN1\x00"+packedBlock(true, bytes))
		at := len(plainLiterals("xyz")) + 1
		for _, bits := range []int{64, 128, 192} {
			wantRefused(t, "bits 6 and 7", bytes[:at]+little(int(bytes[at])+bits, 1)+bytes[at+1:])
		}
	}
}

// plentiful is content and literals for any length, value and match that single blocks can tell of.
func plentiful() (ahead, literals string) {
	var b strings.Builder
	for i := range 9 * 1024 {
		b.WriteByte(byte(i*i/7 + i))
	}
	return b.String(), b.String()[100:640]
}

// wantSequences holds what sequences behind plentiful content make, written as bits.
func wantSequences(t *testing.T, what string, chosen tables, bits string, list ...sequence) {
	t.Helper()
	ahead, literals := plentiful()
	text := "SKN1\x07" + rawBlocks(ahead) + packedBlock(true, plainLiterals(literals)+chosen.head(len(list))+bitBytes(bits))
	want, rest := ahead, literals
	last := model{frame: modelFrame{offsets: []int{1, 4, 8}}}
	for _, s := range list {
		want = back(want+rest[:s.length], last.offset(s.value, s.length), s.match)
		rest = rest[s.length:]
	}
	if got, e := skein.Whole(widest, text); got != want+rest || e != api.OK {
		t.Errorf("P10: %s: %v, bits %s: %q, %d, want %q", what, list, bits, got[min(len(got), len(ahead)):], e, (want + rest)[len(ahead):])
	}
}

func TestExtraBitsAtTheirBounds(t *testing.T) {
	// The least and the greatest length of each symbol.
	bounds := [][2]int{{0, 0}, {1, 1}, {2, 2}, {3, 3}, {4, 4}, {5, 5}, {6, 6}, {7, 7}, {8, 9}, {10, 13}, {14, 21}, {22, 37}, {38, 69}, {70, 133}, {134, 261}, {262, 517}}
	for symbol, bound := range bounds {
		extra := max(0, symbol-7)
		noughts, ones := strings.Repeat("0", extra), strings.Repeat("1", extra)
		// The offset's two bits, 01, come first: the value 5.
		wantSequences(t, "the least length", singles(symbol, 2, 0), "01"+noughts, sequence{bound[0], 5, 3})
		wantSequences(t, "the greatest length", singles(symbol, 2, 0), "01"+ones, sequence{bound[1], 5, 3})
		if bound[0]+3+540 <= 1024 {
			wantSequences(t, "the least match", singles(1, 2, symbol), "01"+noughts, sequence{1, 5, bound[0] + 3})
		}
		if bound[1]+3+540 <= 1024 {
			wantSequences(t, "the greatest match", singles(1, 2, symbol), "01"+ones, sequence{1, 5, bound[1] + 3})
		}
	}
	wantContent(t, "the greatest match", plainLiterals("z")+singles(1, 0, 15).head(1)+"\xff", strings.Repeat("z", 521))
	for symbol := 2; symbol < 13; symbol++ {
		least, most := 1<<symbol, 2<<symbol-1
		wantSequences(t, "the least offset", singles(1, symbol, 0), strings.Repeat("0", symbol), sequence{1, least, 3})
		wantSequences(t, "the greatest offset", singles(1, symbol, 0), strings.Repeat("1", symbol), sequence{1, most, 3})
	}
}

// leastOf is the sequence of three symbols whose extra bits are all 0, and these.
func leastOf(symbols [3]int) (sequence, string) {
	least := func(symbol int) int {
		if symbol < 8 {
			return symbol
		}
		return 1<<(symbol-7) + 6
	}
	extra := strings.Repeat("0", symbols[1]+max(0, symbols[2]-7)+max(0, symbols[0]-7))
	return sequence{least(symbols[0]), 1 << symbols[1], 3 + least(symbols[2])}, extra
}

// bigTables are tables for a part, of both logs.
func bigTables(part int) []table {
	list := []table{agreed(part), counted(6, 13, -1, 2, 0, 9, -1, 1, 4, 20, 13), counted(6, 40, 0, -1, 20, 3)}
	if part == 1 {
		return append(list, counted(5, 0, 0, 3, -1, 8, 2, 5, 4, -1, 1, 2, 3, 2))
	}
	return append(list, counted(5, 1, 1, -1, 1, 1, 1, 3, 1, 9, 0, 1, 2, 2, 4, -1, 3))
}

// Each state of a table as the first one, and each that follows it.
func TestFirstAndNextStates(t *testing.T) {
	for part := range 3 {
		for _, table := range bigTables(part) {
			chosen := singles(1, 2, 0)
			chosen[part] = table
			for place, state := range table.states {
				symbols := [3]int{1, 2, 0}
				symbols[part] = state.Symbol
				first, extra := leastOf(symbols)
				bits := binary(place, logOf(table.states)) + extra
				wantSequences(t, "a first state", chosen, bits, first)
				for add := range 1 << state.Bits {
					symbols[part] = table.states[state.Base+add].Symbol
					next, extra := leastOf(symbols)
					if first.length+next.length > 540 || first.match+next.match > 480 {
						continue
					}
					wantSequences(t, "a next state", chosen, bits+binary(add, state.Bits)+extra, first, next)
				}
			}
		}
	}
}
