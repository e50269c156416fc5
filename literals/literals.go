// Package literals: the literals of packed blocks: see DOC.md, P9.
package literals

import (
	"strings"

	"skein/api"
	"skein/faults"
	"skein/scan"
)

// The kinds of literals.
const (
	plain = iota
	repeated
	withCodes
	byLastCodes
)

// Reader reads the literals of the packed blocks of one frame.
type Reader struct {
	last *table // nil, as long as no block had codes
}

// Read takes the literals off the bytes of a block.
func (r *Reader) Read(bytes *scan.Bytes) (string, error) {
	head, err := bytes.Number(2)
	if err != nil {
		return "", err
	}
	// The bits 13 to 15, which must be 0, stay in the length: with one of them it is greater than any that is right.
	kind, length := head&3, head>>2
	if length > api.MaxBlock {
		return "", faults.Format
	}
	switch kind {
	case plain:
		return bytes.Take(length)
	case repeated:
		letter, err := bytes.Take(1)
		return strings.Repeat(letter, length), err
	case withCodes:
		if r.last, err = readTable(bytes); err != nil {
			return "", err
		}
	}
	return r.readCoded(bytes, length)
}

func (r *Reader) readCoded(bytes *scan.Bytes, length int) (string, error) {
	if r.last == nil {
		return "", faults.Format
	}
	size, err := bytes.Number(2)
	if err != nil {
		return "", err
	}
	coded, err := bytes.Take(size)
	if err != nil {
		return "", err
	}
	return r.last.decode(coded, length)
}
