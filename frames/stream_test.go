package frames

import (
	"errors"
	"reflect"
	"strings"
	"testing"

	"skein/api"
	"skein/faults"
	"skein/literals"
	"skein/window"
)

// wants holds an error against a kind and a place.
func wants(t *testing.T, err, kind error, at api.Place) {
	t.Helper()
	var fault *faults.Fault
	if !errors.Is(err, kind) || !errors.As(err, &fault) || fault.Place != at {
		t.Errorf("%v, want %v at %+v", err, kind, at)
	}
}

func TestFaultsAreWrapped(t *testing.T) {
	begun := "SKIP\x01\x00\x00xSKN1\x08\x08\x00a"
	for _, c := range []struct {
		what, text string
		kind       error
		at         api.Place
	}{
		{"a sum", begun + "\x01\x00\x61\xb3\xae\x00", faults.Sum, api.Place{Frame: 1, Block: 2}},
		{"a block", begun + "\x06\x00", faults.Format, api.Place{Frame: 1, Block: 1}},
		{"letters", "SKIP\x00\x00\x00SKIQ", faults.Format, api.Place{Frame: 1}},
		{"a window", "SKN1\x02", faults.Limit, api.Place{}},
		{"a dictionary", "SKN1\x20\x02", faults.Dict, api.Place{}},
	} {
		_, err := New(128, []api.Dict{{ID: 1, Content: "x"}}).Feed(c.text)
		if err == nil {
			t.Errorf("%s: no error", c.what)
			continue
		}
		wants(t, err, c.kind, c.at)
	}
}

func TestCloseTellsTheEnd(t *testing.T) {
	s := New(64, nil)
	wants(t, s.Close(), faults.End, api.Place{})
	s.Feed("SKN1\x00\x00\x00\x01")
	wants(t, s.Close(), faults.Short, api.Place{Block: 1})
	s.Feed("\x00")
	wants(t, s.Close(), faults.End, api.Place{Frame: 1})
	s.Feed("S")
	wants(t, s.Close(), faults.Short, api.Place{Frame: 1})
}

func TestContentComesWithTheErrorBehindIt(t *testing.T) {
	content, err := New(64, nil).Feed("SKN1\x00\x10\x00ab\x0a\x00x\x06\x00")
	if content != "abx" {
		t.Errorf("P6: the content ahead of the fault: %q", content)
	}
	wants(t, err, faults.Format, api.Place{Block: 2})
}

// What came is kept until its unit is whole, and skipped bytes not even so long.
func TestNoMoreIsKeptThanAUnit(t *testing.T) {
	s := New(64, nil)
	s.Feed("SKIP\xff\xff\xff")
	piece := strings.Repeat("x", 1<<16)
	for range 255 {
		s.Feed(piece)
		if len(s.begun) != 0 || cap(s.begun) > 64 {
			t.Fatalf("%d skipped bytes are kept, in a room of %d", len(s.begun), cap(s.begun))
		}
	}
	s.Feed(piece[1:])
	wants(t, s.Close(), faults.End, api.Place{Frame: 1})
	s.Feed("SKN1\x00")
	raw := "\x00\x20" + strings.Repeat("y", api.MaxBlock)
	if content, err := s.Feed(strings.Repeat(raw, 100) + raw[:500]); len(content) != 100*api.MaxBlock || err != nil {
		t.Fatalf("P8: %d bytes of content, %v", len(content), err)
	}
	if len(s.begun) != 498 || cap(s.begun) > 2*api.MaxBlock {
		t.Errorf("%d bytes are kept of a block, in a room of %d", len(s.begun), cap(s.begun))
	}
}

// The codes and the content of a frame are of no use behind it.
func TestNothingOfAFrameIsKeptBehindIt(t *testing.T) {
	s := New(64, nil)
	if content, err := s.Feed("SKN1\x00\x44\x00\x22\x00\x01\x01\x01\x00\x53\x00"); len(content) != 8 || err != nil {
		t.Fatalf("P9: a block with codes: %q, %v", content, err)
	}
	if s.frame.literals == (literals.Reader{}) {
		t.Errorf("P9: the codes of a frame that goes on are not kept")
	}
	if reflect.DeepEqual(s.frame.window, window.Window{}) {
		t.Errorf("P10: the content of a frame that goes on is not kept")
	}
	s.Feed("\x01\x00")
	if !reflect.DeepEqual(s.frame, frame{}) {
		t.Errorf("something of a frame that has ended is kept: %+v", s.frame)
	}
}

// A block of three tables: by log 5 and 16, 16; agreed; by log 6 and 32, 32.
const threeTables = "\x6c\x00\x04\x00x\x01\x22\x15\x10\x10\x16\x20\x20\x20\x00"

// Tables are built once for a whole stream, and another stream knows nothing of them.
func TestTablesOfAStream(t *testing.T) {
	s, other := New(64, nil), New(64, nil)
	for range 3 {
		if content, err := s.Feed("SKN1\x00" + threeTables + threeTables + "\x01\x00"); content != "xxxxxxxx" || err != nil {
			t.Fatalf("P10: blocks with sequences: %q, %v", content, err)
		}
		if len(s.tables) != 3 {
			t.Errorf("%d tables are kept, of 3", len(s.tables))
		}
	}
	if len(other.tables) != 0 {
		t.Errorf("another stream has %d tables", len(other.tables))
	}
}
