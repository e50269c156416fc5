package skein_test

import (
	"strings"
	"testing"

	"skein/api"
	"skein/skein"
)

// offsetTables are those in which the sequences of this file are written.
func offsetTables() tables {
	return tables{counted(5, 16, 16), counted(6, 20, 20, 10, 10, -1, -1, -1, -1), counted(5, 32)}
}

// inOneBlock writes sequences behind a text, all of them in one block.
func inOneBlock(text string, list []sequence) string {
	return "SKN1\x00" + rawBlock(false, text) + packedBlock(true, plainLiterals(strings.Repeat("XYZ", 9))+offsetTables().with(list...))
}

// inBlocks writes sequences behind a text, each in a block of its own, with blocks of other kinds between them.
func inBlocks(text string, list []sequence) string {
	all := "SKN1\x00" + rawBlock(false, text)
	for i, s := range list {
		chosen := offsetTables()
		if i > 0 {
			chosen = chosen.again()
		}
		all += packedBlock(false, plainLiterals("XYZ"[i%3:i%3+s.length])+chosen.with(s)) + between()
	}
	return all + rawBlock(true, "")
}

const alphabet = "abcdefghijklmnopqrstuvwxyzABCDEFGHIJKLMNOPQRSTUVWXYZ0123456789"

// The offset that each sequence must have, by hand: the last ones are told behind it.
func TestLastOffsets(t *testing.T) {
	for _, c := range []struct {
		what    string
		list    []sequence
		offsets []int
	}{
		{"the first of them, at first", []sequence{{1, 1, 3}, {1, 1, 3}}, []int{1, 1}},
		{"the second, at first", []sequence{{1, 2, 3}, {1, 1, 3}, {1, 2, 3}}, []int{4, 4, 1}},
		{"the third, at first", []sequence{{1, 3, 3}, {1, 1, 3}, {1, 2, 3}, {1, 3, 3}}, []int{8, 8, 1, 4}},
		{"the second, by a length of 0", []sequence{{0, 1, 3}, {1, 1, 3}, {1, 2, 3}, {1, 3, 3}}, []int{4, 4, 1, 8}},
		{"the third, by a length of 0", []sequence{{0, 2, 3}, {1, 1, 3}, {1, 2, 3}, {1, 3, 3}}, []int{8, 8, 1, 4}},
		{"a new one", []sequence{{1, 8, 3}, {1, 1, 3}, {1, 2, 3}, {1, 3, 3}}, []int{5, 5, 1, 4}},
		{"a new one, and a length of 0", []sequence{{0, 8, 3}, {0, 1, 3}, {0, 2, 3}}, []int{5, 1, 4}},
		{"the least new one", []sequence{{1, 4, 3}, {0, 4, 3}, {1, 3, 3}}, []int{1, 1, 1}},
		{"a new one that is there already", []sequence{{1, 7, 3}, {1, 2, 3}, {1, 3, 3}}, []int{4, 1, 4}},
		{"the first one less 1", []sequence{{1, 10, 3}, {0, 3, 3}, {1, 1, 3}, {1, 2, 3}, {1, 3, 3}}, []int{7, 6, 6, 7, 1}},
		{"the first one less 1, again and again", []sequence{{1, 10, 3}, {0, 3, 3}, {0, 3, 3}, {0, 3, 3}, {1, 2, 3}, {1, 3, 3}}, []int{7, 6, 5, 4, 5, 6}},
		{"less 1 of the second, put first", []sequence{{1, 2, 3}, {0, 3, 3}, {1, 3, 3}}, []int{4, 3, 1}},
		{"down to 1", []sequence{{1, 5, 3}, {0, 3, 3}}, []int{2, 1}},
		{"in turn", []sequence{{1, 1, 3}, {1, 2, 3}, {1, 3, 3}, {0, 1, 3}, {0, 2, 3}, {1, 10, 3}, {0, 3, 3}}, []int{1, 4, 8, 4, 1, 7, 6}},
	} {
		whole, apart, literals := alphabet, alphabet, strings.Repeat("XYZ", 9)
		for i, s := range c.list {
			whole = back(whole+literals[:s.length], c.offsets[i], 3)
			literals = literals[s.length:]
			apart = back(apart+"XYZ"[i%3:i%3+s.length], c.offsets[i], 3) + "cdde\x01"
		}
		check(t, widest, stream{c.what, inOneBlock(alphabet, c.list), whole + literals, api.OK, 1, 0})
		check(t, widest, stream{c.what + ", in blocks", inBlocks(alphabet, c.list), apart, api.OK, 1, 0})
	}
}

// All ways of taking five offsets, the first of which is a new one or not.
func TestLastOffsetsInAnyOrder(t *testing.T) {
	choices := []sequence{{1, 1, 3}, {1, 2, 3}, {1, 3, 3}, {0, 1, 3}, {0, 2, 3}, {0, 3, 3}, {1, 9, 3}, {0, 20, 3}}
	right := 0
	for n := range 8 * 8 * 8 * 8 * 8 {
		var list []sequence
		for rest := n + 1<<15; rest > 1; rest /= 8 {
			list = append(list, choices[rest%8])
		}
		text := inOneBlock(alphabet, list)
		want := alphabet
		last := model{frame: modelFrame{offsets: []int{1, 4, 8}}}
		e, literals := api.OK, strings.Repeat("XYZ", 9)
		for _, s := range list {
			offset := last.offset(s.value, s.length)
			if offset == 0 {
				e, want, literals = api.ErrFormat, alphabet, ""
				break
			}
			want = back(want+literals[:s.length], offset, 3)
			literals = literals[s.length:]
		}
		if e == api.OK {
			right++
		}
		if got, f := skein.Whole(widest, text); got != want+literals || f != e {
			t.Fatalf("P10: %v: %q, %d, want %q, %d", list, got, f, want+literals, e)
		}
	}
	if right < 20000 || right > 8*8*8*8*8-1000 {
		t.Errorf("%d of the orders are right", right)
	}
}

func TestOffsetsOf0(t *testing.T) {
	for _, c := range []struct {
		what string
		list []sequence
	}{
		{"of 1, which is first at first", []sequence{{0, 3, 3}}},
		{"of 1, which was put first", []sequence{{1, 2, 3}, {1, 2, 3}, {0, 3, 3}}},
		{"of 1, which was new", []sequence{{1, 4, 3}, {0, 3, 3}}},
		{"of 2, twice", []sequence{{1, 5, 3}, {0, 3, 3}, {0, 3, 3}}},
		{"ahead of others that are right", []sequence{{0, 3, 3}, {1, 1, 3}, {1, 8, 3}}},
	} {
		check(t, widest, stream{c.what, inOneBlock(alphabet, c.list), alphabet, api.ErrFormat, 0, 1})
		want := modelOf(widest, inBlocks(alphabet, c.list), true)
		if want.e != api.ErrFormat {
			t.Fatalf("%s: to the model it is right", c.what)
		}
		check(t, widest, stream{c.what + ", in blocks", inBlocks(alphabet, c.list), want.content, api.ErrFormat, 0, want.at.Block})
	}
}

// A frame begins with 1, 4, 8 again, whatever another one had.
func TestLastOffsetsOfAnotherFrame(t *testing.T) {
	list := []sequence{{1, 10, 3}, {1, 9, 3}, {1, 8, 3}}
	first := inOneBlock(alphabet, list)
	ahead, e := skein.Whole(widest, first)
	if e != api.OK {
		t.Fatalf("P10: %q: %d", first, e)
	}
	for value, offset := range map[int]int{1: 1, 2: 4, 3: 8} {
		want := back(alphabet+"X", offset, 3) + strings.Repeat("XYZ", 9)[1:]
		second := inOneBlock(alphabet, []sequence{{1, value, 3}})
		check(t, widest, stream{"another frame", first + second, ahead + want, api.OK, 2, 0})
		check(t, widest, stream{"another frame behind a skipped one", first + "SKIP\x00\x00\x00" + second, ahead + want, api.OK, 3, 0})
	}
}
