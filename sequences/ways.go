package sequences

import (
	"skein/api"
	"skein/faults"
	"skein/scan"
)

// The parts of a sequence, in the order in which their tables are given.
const (
	lengths = iota
	offsets
	matches
	parts
)

// The ways in which a table is given.
const (
	agreed = iota
	single
	counted
	repeated
)

// The bits of the byte that tells the ways.
const (
	wayBits = 3
	noBits  = 1<<6 | 1<<7
)

// minusOne is how a count of -1 is written.
const minusOne = 255

// readTables takes the tables of a block off its bytes. They are this block's, and stay for later ones.
func (r *Reader) readTables(bytes *scan.Bytes) error {
	ways, err := bytes.Number(1)
	if err != nil {
		return err
	}
	if ways&noBits != 0 {
		return faults.Format
	}
	for part := range parts {
		if r.last[part], err = r.readTable(part, ways>>(2*part)&wayBits, bytes); err != nil {
			return err
		}
	}
	return nil
}

func (r *Reader) readTable(part, way int, bytes *scan.Bytes) (table, error) {
	switch way {
	case agreed:
		return r.tables.of(agreedCounts(part))
	case single:
		return readSingle(part, bytes)
	case counted:
		return r.readCounted(part, bytes)
	}
	if r.last[part].states == nil {
		return table{}, faults.Format
	}
	return r.last[part], nil
}

func readSingle(part int, bytes *scan.Bytes) (table, error) {
	symbol, err := bytes.Number(1)
	if err != nil {
		return table{}, err
	}
	if symbol >= symbolsOf(part) {
		return table{}, faults.Format
	}
	return singleState(symbol), nil
}

// readCounted refuses too many counts by their number, since symbols that take no place are not seen in the table.
func (r *Reader) readCounted(part int, bytes *scan.Bytes) (table, error) {
	head, err := bytes.Number(1)
	if err != nil {
		return table{}, err
	}
	number := head>>4 + 1
	if number > symbolsOf(part) {
		return table{}, faults.Format
	}
	list, err := bytes.Take(number)
	if err != nil {
		return table{}, err
	}
	c := counts{log: head & 15}
	for symbol := range number {
		c.ofSymbol[symbol] = countOf(list[symbol])
	}
	return r.tables.of(c)
}

func countOf(b byte) int {
	if b == minusOne {
		return -1
	}
	return int(b)
}

// symbolsOf is how many symbols a part has.
func symbolsOf(part int) int {
	if part == offsets {
		return 13
	}
	return 16
}

func agreedCounts(part int) counts {
	if part == offsets {
		return counts{log: 5, ofSymbol: [api.MaxSymbols]int{3, 3, 3, 3, 3, 3, 3, 2, 2, 2, 2, 2, 1}}
	}
	return counts{log: 5, ofSymbol: [api.MaxSymbols]int{5, 3, 3, 2, 2, 2, 2, 2, 2, 2, 2, 1, 1, 1, 1, 1}}
}
