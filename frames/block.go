package frames

import (
	"skein/api"
	"skein/faults"
	"skein/scan"
)

// The kinds of blocks.
const (
	raw = iota
	run
	packed
	noKind
)

// block is what the header of a block told.
type block struct {
	last   bool
	kind   int
	number int
}

func parseBlock(bytes string) (block, error) {
	n := scan.Number(bytes)
	b := block{last: n&1 != 0, kind: n >> 1 & 3, number: n >> 3}
	if b.kind == noKind || b.number > api.MaxBlock {
		return block{}, faults.Format
	}
	return b, nil
}

// length is how many bytes follow the header.
func (b block) length() int {
	if b.kind == run {
		return 1
	}
	return b.number
}
