package skein_test

import (
	"math"
	"strings"
	"testing"

	"skein/api"
	"skein/skein"
)

func TestFourthExample(t *testing.T) {
	stream := "SKN1\x00\x19\x00abc"
	if s, e := skein.Whole(widest, stream); s != "abc" || e != api.OK {
		t.Errorf("example 4: Whole = %q, %d", s, e)
	}
	r := fresh(t, widest)
	for i := range len(stream) {
		wantRead(t, r, 5, "", api.Wait)
		feed(t, r, stream[i:i+1])
	}
	wantRead(t, r, 5, "abc", api.OK)
	wantRead(t, r, 5, "", api.Wait)
	closeIt(t, r)
	wantRead(t, r, 5, "", api.End)
}

func TestReadOfAnyNumber(t *testing.T) {
	r := fresh(t, widest)
	for _, n := range []int{math.MinInt, -1, 0, 1, math.MaxInt} {
		wantRead(t, r, n, "", api.Wait)
	}
	feed(t, r, "SKN1\x00"+rawBlock(false, "abc")+runBlock(false, 3, "x")+rawBlock(false, "defg"))
	for _, n := range []int{0, -1, math.MinInt} {
		wantRead(t, r, n, "", api.OK)
	}
	wantRead(t, r, 1, "a", api.OK)
	wantRead(t, r, 4, "bcxx", api.OK)
	wantRead(t, r, 0, "", api.OK)
	wantRead(t, r, 3, "xde", api.OK)
	wantRead(t, r, math.MaxInt, "fg", api.OK)
	for _, n := range []int{math.MinInt, -1, 0, 1, math.MaxInt} {
		wantRead(t, r, n, "", api.Wait)
	}
	feed(t, r, rawBlock(false, "hi"))
	wantRead(t, r, 2, "hi", api.OK)
	closeIt(t, r)
	for _, n := range []int{math.MinInt, -1, 0, 1, math.MaxInt} {
		wantRead(t, r, n, "", api.ErrShort)
	}
}

func TestCallsBehindClose(t *testing.T) {
	for _, c := range []struct {
		what, text string
		e          api.Errno
		frame      int
	}{
		{"nothing", "", api.End, 0},
		{"a frame", "SKN1\x00\x01\x00", api.End, 1},
		{"a beginning", "SKN1\x00\x01", api.ErrShort, 0},
		{"a fault", "SKN2", api.ErrFormat, 0},
	} {
		r := fresh(t, widest)
		feed(t, r, c.text)
		closeIt(t, r)
		for range 3 {
			if e := r.Close(); e != api.ErrClosed {
				t.Errorf("P6: %s: Close again = %d", c.what, e)
			}
			for _, s := range []string{"", "\x00", "SKN1\x00\x19\x00abc"} {
				if e := r.Feed(s); e != api.ErrClosed {
					t.Errorf("P6: %s: Feed(%q) behind Close = %d", c.what, s, e)
				}
			}
			wantRead(t, r, 9, "", c.e)
			wantRead(t, r, 0, "", c.e)
			if c.e == api.End {
				wantPlace(t, r, c.frame, 0, api.OK)
			} else {
				wantPlace(t, r, c.frame, 0, c.e)
			}
		}
	}
}

// stops are streams that stop a reader, each with another error, behind "abc" in their second frame.
func stops() map[api.Errno]string {
	begun := "SKIP\x00\x00\x00SKN1\x08" + rawBlock(true, "abc")
	return map[api.Errno]string{
		api.ErrFormat: begun + sumOf("abc") + "SKN1\x40",
		api.ErrLimit:  begun + sumOf("abc") + "SKN1\x01",
		api.ErrDict:   begun + sumOf("abc") + "SKN1\x20\x00",
		api.ErrSum:    begun + sumOf("abd"),
	}
}

func TestStoppedForGood(t *testing.T) {
	for e, s := range stops() {
		frame, block := 2, 0
		if e == api.ErrSum {
			frame, block = 1, 1
		}
		r := fresh(t, api.Config{Limit: 64})
		feed(t, r, s)
		// what is ready is read all the same, and Place does not wait for it
		wantPlace(t, r, frame, block, e)
		wantRead(t, r, 2, "ab", api.OK)
		for _, more := range []string{"", "\x00", "SKN1\x00\x19\x00xyz", strings.Repeat("\x00", 5000)} {
			feed(t, r, more)
			wantPlace(t, r, frame, block, e)
		}
		wantRead(t, r, 2, "c", api.OK)
		for range 3 {
			wantRead(t, r, 2, "", e)
			wantRead(t, r, -1, "", e)
			wantPlace(t, r, frame, block, e)
		}
		feed(t, r, "SKN1")
		closeIt(t, r)
		wantRead(t, r, 2, "", e)
		wantPlace(t, r, frame, block, e)
		if got, f := skein.Whole(api.Config{Limit: 64}, s+"SKN1\x00\x19\x00xyz"); got != "abc" || f != e {
			t.Errorf("P6: Whole(%q ..) = %q, %d, want abc, %d", s, got, f, e)
		}
	}
}

func TestPlaceWaitsTillTheReaderStops(t *testing.T) {
	r := fresh(t, widest)
	stream := "SKIP\x01\x00\x00x" + "SKN1\x08" + rawBlock(false, "ab") + runBlock(true, 2, "c") + sumOf("abcc")
	for i := range len(stream) {
		wantPlace(t, r, 0, 0, api.Wait)
		feed(t, r, stream[i:i+1])
	}
	wantPlace(t, r, 0, 0, api.Wait)
	closeIt(t, r)
	wantPlace(t, r, 2, 0, api.OK)
	wantRead(t, r, 3, "abc", api.OK)
	wantPlace(t, r, 2, 0, api.OK)
	wantRead(t, r, 3, "c", api.OK)
	wantRead(t, r, 3, "", api.End)
	wantPlace(t, r, 2, 0, api.OK)
}

// A unit is read as soon as its last byte is there, and judged no sooner.
func TestUnitsAreReadWhenTheyAreWhole(t *testing.T) {
	raw := "SKN1\x00" + rawBlock(false, "ab")
	for _, c := range []struct {
		what, ahead, last string
		e                 api.Errno
		block             int
	}{
		{"letters", "SKN", "2", api.ErrFormat, 0},
		{"letters of which none is right", "xyz", "1", api.ErrFormat, 0},
		{"a header of one byte", "SKN1", "\x40", api.ErrFormat, 0},
		{"a header with an ID", "SKN1\xa0", "\x01", api.ErrFormat, 0},
		{"a header with a size", "SKN1\x90\x01\x00", "\x00", api.ErrFormat, 0},
		{"a header with both", "SKN1\xf0\x01\x01\x00", "\x00", api.ErrFormat, 0},
		{"a window in a header with both", "SKN1\x37\x01\x01\x00", "\x00", api.ErrLimit, 0},
		{"a dictionary in a header with both", "SKN1\x30\x02\x01\x00", "\x00", api.ErrDict, 0},
		{"the kind of a block", raw + "\x06", "\x00", api.ErrFormat, 1},
		{"the number of a raw block", raw + "\x08", "\x20", api.ErrFormat, 1},
		{"the number of a run", raw + "\x0a", "\x20", api.ErrFormat, 1},
		{"the number of a block of kind 2", raw + "\x0c", "\x20", api.ErrFormat, 1},
		{"a raw block that is too long for the size", "SKN1\x10\x01\x00\x00\x10\x00a", "b", api.ErrFormat, 0},
		{"a run that is too long for the size", "SKN1\x10\x01\x00\x00\x12\x00", "x", api.ErrFormat, 0},
		{"a last block that is too short for the size", "SKN1\x10\x03\x00\x00\x11\x00a", "b", api.ErrFormat, 0},
		{"a sum", "SKN1\x08" + rawBlock(true, "ab") + "\x00\x00\x00", "\x00", api.ErrSum, 1},
	} {
		r := fresh(t, api.Config{Limit: 64, Dicts: dicts(1)})
		feed(t, r, c.ahead)
		if _, e := r.Place(); e != api.Wait {
			t.Errorf("P6: %s: judged too soon: %d", c.what, e)
		}
		feed(t, r, c.last)
		if p, e := r.Place(); p != (api.Place{Block: c.block}) || e != c.e {
			t.Errorf("P6: %s: %+v, %d, want block %d, %d", c.what, p, e, c.block, c.e)
		}
		cut := fresh(t, api.Config{Limit: 64, Dicts: dicts(1)})
		feed(t, cut, c.ahead)
		closeIt(t, cut)
		wantPlace(t, cut, 0, c.block, api.ErrShort)
	}
}

func TestContentIsReadyWhenTheBlockIs(t *testing.T) {
	r := fresh(t, widest)
	feed(t, r, "SKN1\x08\x10\x00a")
	wantRead(t, r, 9, "", api.Wait)
	feed(t, r, "b\x12")
	wantRead(t, r, 9, "ab", api.OK)
	feed(t, r, "\x00")
	wantRead(t, r, 9, "", api.Wait)
	feed(t, r, "x\x19\x00cd")
	wantRead(t, r, 9, "xx", api.OK)
	feed(t, r, "e")
	// the sum comes behind, and may be wrong: what has come out is not taken back
	wantRead(t, r, 9, "cde", api.OK)
	feed(t, r, "\x00\x00\x00\x00")
	wantRead(t, r, 9, "", api.ErrSum)
}

func TestWhatWasFedIsNotKept(t *testing.T) {
	chosen := tables{counted(5, 30, 2), agreed(1), counted(6, 60, -1, 3)}
	stream := "SKN1\x08" + rawBlock(false, "some text of more than a stripe") + packedBlock(false, plainLiterals("xyz")+chosen.with(sequence{1, 34, 5})) +
		packedBlock(false, plainLiterals("")+chosen.again().with(sequence{0, 10, 3}, sequence{0, 1, 4})) + rawBlock(true, "end")
	want := modelOf(widest, stream, true).content
	stream += sumOf(want)
	for cut := range len(stream) {
		r := fresh(t, widest)
		for _, piece := range []string{stream[:cut], stream[cut:]} {
			room := []byte(piece)
			feed(t, r, lent(room))
			clear(room)
		}
		closeIt(t, r)
		wantRead(t, r, 99, want, api.OK)
		wantRead(t, r, 99, "", api.End)
	}
}

func TestWhatWasReadIsNewMemory(t *testing.T) {
	r := fresh(t, widest)
	feed(t, r, "SKN1\x00"+rawBlock(false, "abcdef"))
	var out []string
	for range 3 {
		s, _ := r.Read(2)
		out = append(out, s)
		feed(t, r, rawBlock(false, "uvwxyz"))
	}
	if got := strings.Join(out, " "); got != "ab cd ef" {
		t.Errorf("P2: what was read has become %q", got)
	}
	wantRead(t, r, 99, strings.Repeat("uvwxyz", 3), api.OK)
}
