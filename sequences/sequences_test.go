package sequences

import (
	"errors"
	"slices"
	"testing"

	"skein/api"
	"skein/codes"
	"skein/faults"
	"skein/scan"
)

func wantRead(t *testing.T, r *Reader, bytes string, want ...Sequence) {
	t.Helper()
	if got, err := r.Read(scan.Bytes(bytes)); !slices.Equal(got, want) || err != nil {
		t.Errorf("P10: Read(%q) = %v, %v, want %v", bytes, got, err, want)
	}
}

func wantFormat(t *testing.T, r *Reader, bytes string) {
	t.Helper()
	if got, err := r.Read(scan.Bytes(bytes)); got != nil || !errors.Is(err, faults.Format) {
		t.Errorf("P10: Read(%q) = %v, %v, want no sequences, and the error of the format", bytes, got, err)
	}
}

func TestRead(t *testing.T) {
	r := New(Tables{})
	wantRead(t, &r, "\x00")
	wantRead(t, &r, "\x01\x15\x02\x00\x03", Sequence{Length: 2, Offset: 1, Match: 6})
	wantRead(t, &r, "\x02\x3f", Sequence{Length: 2, Offset: 1, Match: 6}, Sequence{Length: 2, Offset: 1, Match: 6})
	wantRead(t, &r, "\x01\x3b\x15\x10\x10\x20", Sequence{Length: 2, Offset: 4, Match: 6})
	// The states 9, 4, 1 of the agreed tables: the symbols 15, 10, 1; then 10 and 8 extra bits.
	wantRead(t, &r, "\x01\x00\x49\x02\x06\x40\x00", Sequence{Length: 262 + 128, Offset: 1024 + 12 - 3, Match: 4})
}

func TestReadOfWrongBytes(t *testing.T) {
	for _, bytes := range []string{
		"", "\x00\x00", "\x01", "\x01\x15", "\x01\x15\x02", "\x01\x15\x02\x00", "\x01\x15\x02\x00\x03\x00", "\x01\x55\x02\x00\x03",
		"\x01\x95\x02\x00\x03", "\x01\x15\x10\x00\x03", "\x01\x15\x02\x0d\x03", "\x01\x15\x02\x00\x10", "\x01\x17\x00\x03",
		"\x01\x1d\x02\x03", "\x01\x35\x02\x00", "\x01\x15\x02\x01\x03", "\x01\x15\x00\x01\x03\x80", "\x01\x00\x00", "\x01\x00\x00\x00\x00",
	} {
		r := New(Tables{})
		wantFormat(t, &r, bytes)
	}
}

// A reader of another frame leans on nothing of this one, though the tables that were built are the same.
func TestReadersOfTwoFrames(t *testing.T) {
	tables := Tables{}
	first, second := New(tables), New(tables)
	wantRead(t, &first, "\x01\x15\x01\x03\x00\x00", Sequence{Length: 1, Offset: 5, Match: 3})
	wantRead(t, &second, "\x01\x15\x01\x00\x00", Sequence{Length: 1, Offset: 1, Match: 3})
	wantRead(t, &first, "\x01\x37\x00", Sequence{Length: 1, Offset: 5, Match: 3})
	third := New(tables)
	wantFormat(t, &third, "\x01\x3f")
}

func TestTablesAreBuiltOnce(t *testing.T) {
	tables := Tables{}
	first := New(tables)
	for range 3 {
		wantRead(t, &first, "\x01\x00\x08\x00", Sequence{Length: 1, Offset: 1, Match: 3})
	}
	if len(tables) != 2 {
		t.Errorf("the agreed tables, which are two, are kept as %d", len(tables))
	}
	built := first.last
	if &built[lengths].states[0] != &built[matches].states[0] {
		t.Error("the table of lengths has been built for matches once more")
	}
	// The counts of the agreed tables, written out, and those of a third table, in another frame too.
	second := New(tables)
	wantRead(t, &second, "\x01\x2a\xf5\x05\x03\x03\x02\x02\x02\x02\x02\x02\x02\x02\x01\x01\x01\x01\x01\xc5\x03\x03\x03\x03\x03\x03\x03\x02\x02\x02\x02\x02\x01\x15\x10\x10\x08\x00", Sequence{Length: 1, Offset: 1, Match: 3})
	for _, part := range []int{lengths, offsets} {
		if &second.last[part].states[0] != &built[part].states[0] {
			t.Errorf("the table of the part %d has been built once more", part)
		}
	}
	third := New(tables)
	wantRead(t, &third, "\x01\x2a\x15\x10\x10\x15\x10\x10\x25\x10\x10\x00\x20\x00", Sequence{Length: 1, Offset: 1, Match: 3})
	for part := range parts {
		if &third.last[part].states[0] != &second.last[matches].states[0] {
			t.Errorf("the table of the part %d has been built once more", part)
		}
	}
	if len(tables) != 3 {
		t.Errorf("three tables are kept as %d", len(tables))
	}
}

// Tables are told apart by the log, and by each of the counts.
func TestTablesOfOtherCounts(t *testing.T) {
	tables := Tables{}
	var list []counts
	for log := api.MinLog; log <= api.MaxLog; log++ {
		for symbol := range api.MaxSymbols {
			whole := counts{log: log}
			whole.ofSymbol[symbol] = 1 << log
			list = append(list, whole)
			if symbol > 0 {
				parted := whole
				parted.ofSymbol[0], parted.ofSymbol[symbol] = 1<<log-1, 1
				behind := whole
				behind.ofSymbol[0], behind.ofSymbol[symbol] = 1<<log-1, -1
				list = append(list, parted, behind)
			}
		}
	}
	for range 2 {
		for _, c := range list {
			want, _ := codes.States(c.log, c.ofSymbol[:])
			if got, err := tables.of(c); err != nil || got.log != c.log || !slices.Equal(got.states, want) {
				t.Errorf("the table of %v: %v, %v, want %v", c, got, err, want)
			}
		}
	}
	if len(tables) != len(list) {
		t.Errorf("of %d tables %d are kept", len(list), len(tables))
	}
}

func TestTablesThatAreNoneAreNotKept(t *testing.T) {
	tables := Tables{}
	for _, c := range []counts{{}, {log: 5}, {log: 5, ofSymbol: [16]int{31}}, {log: 4, ofSymbol: [16]int{16}}, {log: 7, ofSymbol: [16]int{128}}, {log: 5, ofSymbol: [16]int{34, -2}}} {
		if got, err := tables.of(c); got.states != nil || !errors.Is(err, faults.Format) {
			t.Errorf("the table of %v: %v, %v", c, got, err)
		}
	}
	if len(tables) != 0 {
		t.Errorf("%d tables that are none are kept", len(tables))
	}
}

func TestLengthsOfSymbols(t *testing.T) {
	for symbol, least := range []int{0, 1, 2, 3, 4, 5, 6, 7, 8, 10, 14, 22, 38, 70, 134, 262} {
		if got := readLength(symbol, scan.BitsOf("\x00")); got != least {
			t.Errorf("P10: the least length of the symbol %d: %d, want %d", symbol, got, least)
		}
		most := least
		if symbol >= 8 {
			most = least + 1<<(symbol-7) - 1
		}
		if got := readLength(symbol, scan.BitsOf("\xff")); got != most {
			t.Errorf("P10: the greatest length of the symbol %d: %d, want %d", symbol, got, most)
		}
	}
}

func TestValuesOfSymbols(t *testing.T) {
	for symbol := range 13 {
		if got := readValue(symbol, scan.BitsOf("\x00\x00")); got != 1<<symbol {
			t.Errorf("P10: the least value of the symbol %d: %d", symbol, got)
		}
		if got := readValue(symbol, scan.BitsOf("\xff\xff")); got != 2<<symbol-1 {
			t.Errorf("P10: the greatest value of the symbol %d: %d", symbol, got)
		}
	}
}

func TestLastOffsets(t *testing.T) {
	for _, c := range []struct {
		value, length, want int
		then                lastOffsets
	}{
		{1, 1, 20, lastOffsets{20, 30, 40}},
		{2, 1, 30, lastOffsets{30, 20, 40}},
		{3, 1, 40, lastOffsets{40, 20, 30}},
		{1, 0, 30, lastOffsets{30, 20, 40}},
		{2, 0, 40, lastOffsets{40, 20, 30}},
		{3, 0, 19, lastOffsets{19, 20, 30}},
		{4, 1, 1, lastOffsets{1, 20, 30}},
		{4, 0, 1, lastOffsets{1, 20, 30}},
		{8191, 517, 8188, lastOffsets{8188, 20, 30}},
		{23, 0, 20, lastOffsets{20, 20, 30}},
	} {
		last := lastOffsets{20, 30, 40}
		if got := last.take(c.value, c.length); got != c.want || last != c.then {
			t.Errorf("P10: the value %d behind %d literals: %d, then %v; want %d, then %v", c.value, c.length, got, last, c.want, c.then)
		}
	}
}
