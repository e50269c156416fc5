package skein_test

import (
	"strings"
	"testing"
	"unsafe"

	"skein/api"
	"skein/skein"
	"skein/sums"
)

// widest is the greatest window, without dictionaries.
var widest = api.Config{Limit: api.MaxWindow}

// little writes a number of n bytes, the lowest one first.
func little(v, n int) string {
	var b strings.Builder
	for range n {
		b.WriteByte(byte(v))
		v >>= 8
	}
	return b.String()
}

// blockHeader puts the header of a block together.
func blockHeader(last bool, kind, number int) string {
	h := number*8 + kind*2
	if last {
		h++
	}
	return little(h, 2)
}

func rawBlock(last bool, s string) string {
	return blockHeader(last, 0, len(s)) + s
}

func runBlock(last bool, n int, s string) string {
	return blockHeader(last, 1, n) + s
}

func packedBlock(last bool, s string) string {
	return blockHeader(last, 2, len(s)) + s
}

func sumOf(s string) string {
	return little(int(sums.Sum(s)), 4)
}

func fresh(t *testing.T, c api.Config) *skein.Reader {
	t.Helper()
	r, e := skein.New(c)
	if r == nil || e != api.OK {
		t.Fatalf("P6: New(%+v) = %v, %d", c, r, e)
	}
	return r
}

func feed(t *testing.T, r *skein.Reader, s string) {
	t.Helper()
	if e := r.Feed(s); e != api.OK {
		t.Fatalf("P6: Feed(%q) = %d", s, e)
	}
}

func closeIt(t *testing.T, r *skein.Reader) {
	t.Helper()
	if e := r.Close(); e != api.OK {
		t.Fatalf("P6: Close = %d", e)
	}
}

func wantRead(t *testing.T, r *skein.Reader, n int, want string, e api.Errno) {
	t.Helper()
	if s, f := r.Read(n); s != want || f != e {
		t.Errorf("P6: Read(%d) = %q, %d, want %q, %d", n, s, f, want, e)
	}
}

func wantPlace(t *testing.T, r *skein.Reader, frame, block int, e api.Errno) {
	t.Helper()
	if p, f := r.Place(); p != (api.Place{Frame: frame, Block: block}) || f != e {
		t.Errorf("P6: Place = %+v, %d, want %d, %d, %d", p, f, frame, block, e)
	}
}

// lent is a text in a room that can be written into later.
func lent(room []byte) string {
	return unsafe.String(unsafe.SliceData(room), len(room))
}
