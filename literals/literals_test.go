package literals

import (
	"errors"
	"strings"
	"testing"

	"skein/api"
	"skein/codes"
	"skein/faults"
	"skein/scan"
)

// wantRead reads literals, behind which some bytes must be left.
func wantRead(t *testing.T, r *Reader, bytes, want, rest string) {
	t.Helper()
	b := scan.Bytes(bytes)
	if got, err := r.Read(&b); got != want || err != nil || string(b) != rest {
		t.Errorf("P9: Read(%q) = %q, %v, and %q is left; want %q, and %q left", bytes, got, err, b, want, rest)
	}
}

func wantFormat(t *testing.T, r *Reader, bytes string) {
	t.Helper()
	b := scan.Bytes(bytes)
	if got, err := r.Read(&b); got != "" || !errors.Is(err, faults.Format) {
		t.Errorf("P9: Read(%q) = %q, %v, want no literals, and the error of the format", bytes, got, err)
	}
}

func TestReadLeavesWhatIsBehind(t *testing.T) {
	var r Reader
	wantRead(t, &r, "\x0c\x00abcde", "abc", "de")
	wantRead(t, &r, "\x00\x00", "", "")
	wantRead(t, &r, "\x0d\x00abc", "aaa", "bc")
	wantRead(t, &r, "\x01\x00ab", "", "b")
	wantRead(t, &r, "\x0e\x00\x02\x12\x01\x00\x60xy", "\x02\x00\x01", "xy")
	wantRead(t, &r, "\x0b\x00\x01\x00\x80\x00", "\x00\x01", "\x00")
	wantRead(t, &r, "\x03\x00\x00\x00\x80", "", "\x80")
}

// The codes are kept by the reader, and by nothing else.
func TestCodesOfOneReader(t *testing.T) {
	var first, second Reader
	wantRead(t, &first, "\x06\x00\x01\x01\x01\x00\x80", "\x01", "")
	wantFormat(t, &second, "\x07\x00\x01\x00\x80")
	wantRead(t, &first, "\x07\x00\x01\x00\x80", "\x01", "")
}

// A table must find the code that any bits begin with.
func TestTableOfEachBits(t *testing.T) {
	for _, weights := range [][]int{
		{1}, {8}, {2, 1}, {0, 0, 3, 0, 2}, {8, 7, 6, 5, 4, 3, 2, 1}, {1, 0, 3, 1, 2},
	} {
		list, e := codes.Codes(weights)
		if e != api.OK {
			t.Fatalf("P5: Codes(%v): %d", weights, e)
		}
		table := newTable(list)
		for bits := range 1 << api.MaxBits {
			found := 0
			for _, code := range list {
				if bits>>(api.MaxBits-code.Bits) != code.Number {
					continue
				}
				found++
				if want := (entry{byte(code.Value), byte(code.Bits)}); table[bits] != want {
					t.Errorf("P5, P9: weights %v, bits %08b: %+v, want %+v", weights, bits, table[bits], want)
				}
			}
			if found != 1 {
				t.Errorf("P5: weights %v: %d codes for the bits %08b", weights, found, bits)
			}
		}
	}
}

func TestEachHead(t *testing.T) {
	behind := strings.Repeat("\x00", 1100)
	for head := range 1 << 16 {
		var r Reader
		b := scan.Bytes(string([]byte{byte(head), byte(head >> 8)}) + behind)
		text, err := r.Read(&b)
		kind, length := head%4, head/4%2048
		right := head < 1<<13 && length <= 1024 && kind < 2
		if right != (err == nil) || right && len(text) != length {
			t.Fatalf("P9: the head %04x: %d literals, %v", head, len(text), err)
		}
	}
}
