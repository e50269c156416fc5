package frames

import (
	"strings"

	"skein/api"
	"skein/faults"
)

// The kinds of blocks.
const (
	raw = iota
	run
	packed
	noKind
)

// block is what the header of a block told.
type block struct {
	last   bool
	kind   int
	number int
}

func parseBlock(bytes string) (block, error) {
	n := number(bytes)
	b := block{last: n&1 != 0, kind: n >> 1 & 3, number: n >> 3}
	if b.kind == noKind || b.number > api.MaxBlock {
		return block{}, faults.Format
	}
	return b, nil
}

// length is how many bytes follow the header.
func (b block) length() int {
	if b.kind == run {
		return 1
	}
	return b.number
}

func (b block) content(bytes string) (string, error) {
	switch b.kind {
	case raw:
		return bytes, nil
	case run:
		return strings.Repeat(bytes, b.number), nil
	}
	// Packed blocks (P9, P10) are not read yet.
	return "", faults.Format
}
