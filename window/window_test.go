package window

import (
	"errors"
	"math/rand"
	"strings"
	"testing"

	"skein/api"
	"skein/faults"
	"skein/sequences"
)

func wantFill(t *testing.T, w *Window, literals, want string, list ...sequences.Sequence) {
	t.Helper()
	if got, err := w.Fill(literals, list); got != want || err != nil {
		t.Errorf("P10: Fill(%q, %v) = %q, %v, want %q", literals, list, got, err, want)
	}
}

func wantFormat(t *testing.T, w *Window, literals string, list ...sequences.Sequence) {
	t.Helper()
	if got, err := w.Fill(literals, list); got != "" || !errors.Is(err, faults.Format) {
		t.Errorf("P10: Fill(%q, %v) = %q, %v, want no content, and the error of the format", literals, list, got, err)
	}
}

func TestFill(t *testing.T) {
	w := New(64, "")
	wantFill(t, &w, "", "")
	wantFill(t, &w, "abc", "abc")
	wantFill(t, &w, "abc", "abbbbc", sequences.Sequence{Length: 2, Offset: 1, Match: 3})
	wantFill(t, &w, "abc", "ababac", sequences.Sequence{Length: 2, Offset: 2, Match: 3})
	wantFill(t, &w, "abc", "aaaabaaaa"+"c", sequences.Sequence{Length: 1, Offset: 1, Match: 3}, sequences.Sequence{Length: 1, Offset: 5, Match: 4})
	wantFormat(t, &w, "abc", sequences.Sequence{Length: 2, Offset: 3, Match: 3})
	wantFormat(t, &w, "abc", sequences.Sequence{Length: 4, Offset: 1, Match: 3})
	wantFormat(t, &w, "abc", sequences.Sequence{Length: 0, Offset: 1, Match: 3})
	wantFormat(t, &w, "abc", sequences.Sequence{Length: 2, Offset: 1, Match: 3}, sequences.Sequence{Length: 2, Offset: 1, Match: 3})
}

func TestFillUpToTheGreatestLength(t *testing.T) {
	w := New(64, "x")
	for n := range 10 {
		literals := strings.Repeat("x", 1015+n)
		s := sequences.Sequence{Length: 3, Offset: 1, Match: 5}
		if len(literals)+5 <= api.MaxBlock {
			wantFill(t, &w, literals, literals+"xxxxx", s)
		} else {
			wantFormat(t, &w, literals, s)
		}
	}
}

// Filling alone changes nothing: the same again gives the same.
func TestFillLeavesTheWindowAlone(t *testing.T) {
	w := New(64, "dict")
	w.Add("some text")
	for range 3 {
		wantFill(t, &w, "ab", "adict"+"b", sequences.Sequence{Length: 1, Offset: 14, Match: 4})
		wantFormat(t, &w, "xyz", sequences.Sequence{Length: 3, Offset: 1, Match: 3}, sequences.Sequence{Length: 0, Offset: 65, Match: 3})
		wantFormat(t, &w, "a", sequences.Sequence{Length: 1, Offset: 15, Match: 4})
	}
	w.Add("a")
	wantFill(t, &w, "", "dict", sequences.Sequence{Offset: 14, Match: 4})
}

// Content of any length behind a dictionary: what is within the window is reached, and no more is kept.
func TestWindowMovesOn(t *testing.T) {
	r := rand.New(rand.NewSource(2))
	for range 300 {
		size := api.MinWindow << r.Intn(8)
		all := strings.Repeat("dictionary", r.Intn(25))
		w := New(size, all)
		for range 40 {
			piece := make([]byte, r.Intn(1+r.Intn(api.MaxBlock)))
			r.Read(piece)
			w.Add(string(piece))
			all += string(piece)
			if len(w.bytes) > size {
				t.Fatalf("a window of %d keeps %d bytes", size, len(w.bytes))
			}
			reach := min(size, len(all))
			wantFormat(t, &w, "", sequences.Sequence{Offset: reach + 1, Match: 3})
			if reach >= 3 {
				offset := 3 + r.Intn(reach-2)
				wantFill(t, &w, "", all[len(all)-offset:len(all)-offset+3], sequences.Sequence{Offset: offset, Match: 3})
				wantFill(t, &w, "", all[len(all)-reach:len(all)-reach+3], sequences.Sequence{Offset: reach, Match: 3})
			}
		}
	}
}

func TestWindowsKnowNothingOfOneAnother(t *testing.T) {
	a, b := New(64, "dict"), New(64, "dict")
	a.Add("aaaa")
	b.Add("bbbb")
	wantFill(t, &a, "", "dictaaaa", sequences.Sequence{Offset: 8, Match: 8})
	wantFill(t, &b, "", "dictbbbb", sequences.Sequence{Offset: 8, Match: 8})
}
