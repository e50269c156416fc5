package rolling_test

import (
	"math/rand"
	"strings"
	"testing"
	"unsafe"

	"skein/rolling"
	"skein/sums"
)

// drawn gives bytes without a period that a stripe could hide.
func drawn(n int) string {
	s := make([]byte, n)
	for i := range s {
		s[i] = byte(i*37 + 11)
	}
	return string(s)
}

func TestSumOfNothing(t *testing.T) {
	s := rolling.Start()
	if got := s.Value(); got != 0x02CC5D05 {
		t.Errorf("P3: the sum of no bytes = %#08x", got)
	}
	s.Add("")
	if got := s.Value(); got != 0x02CC5D05 {
		t.Errorf("P3: the sum of an empty piece = %#08x", got)
	}
}

// The sums wanted here come from another program for XXH32.
func TestSumOfEvenPieces(t *testing.T) {
	for _, c := range []struct {
		n    int
		want uint32
	}{
		{1, 0x3FE5A29D}, {15, 0x162986EB}, {16, 0x96AC9FA6}, {17, 0x3CDFB1A2}, {31, 0xDF853FBF}, {32, 0xDA8072DC},
		{33, 0x3C8FD07D}, {47, 0x0EA9C191}, {64, 0x043913C6}, {255, 0xED4ABA76}, {1024, 0xC1813765}, {4099, 0xCB4B9F20},
	} {
		for size := 1; size <= 40; size++ {
			s := rolling.Start()
			for rest := drawn(c.n); rest != ""; {
				n := min(size, len(rest))
				s.Add(rest[:n])
				rest = rest[n:]
			}
			if got := s.Value(); got != c.want {
				t.Errorf("P3: %d bytes in pieces of %d: %#08x, want %#08x", c.n, size, got, c.want)
			}
		}
	}
}

func TestSumAskedOnTheWay(t *testing.T) {
	r := rand.New(rand.NewSource(6))
	for range 200 {
		s := rolling.Start()
		text := ""
		for range 20 {
			piece := drawn(r.Intn(40))
			s.Add(piece)
			text += piece
			if got, want := s.Value(), sums.Sum(text); got != want {
				t.Fatalf("P3: %q in pieces: %#08x, want %#08x", text, got, want)
			}
		}
	}
}

func TestSumsKnowNothingOfOneAnother(t *testing.T) {
	a, b := rolling.Start(), rolling.Start()
	a.Add(strings.Repeat("a", 20))
	b.Add("b")
	copied := a
	a.Add("more")
	if b.Value() != sums.Sum("b") || copied.Value() != sums.Sum(strings.Repeat("a", 20)) {
		t.Error("P2: a sum shows in another one")
	}
}

func TestSumKeepsNoText(t *testing.T) {
	room := []byte("a text whose room is written into later")
	s := rolling.Start()
	s.Add(unsafe.String(&room[0], len(room)))
	want := s.Value()
	clear(room)
	if s.Value() != want {
		t.Error("P2: the sum keeps the text that was handed in")
	}
}
