// Package scan: bytes that are all there, taken apart from the first one on: see DOC.md, Words.
package scan

import "skein/faults"

// Bytes are what is left of some bytes.
type Bytes string

// Take takes the next n bytes off. Bytes that should be there and are not make a block that is not right.
func (b *Bytes) Take(n int) (string, error) {
	if len(*b) < n {
		return "", faults.Format
	}
	taken := string((*b)[:n])
	*b = (*b)[n:]
	return taken, nil
}

// Number takes the next n bytes off, as a number.
func (b *Bytes) Number(n int) (int, error) {
	taken, err := b.Take(n)
	return Number(taken), err
}

// Number is the number that is written in some bytes, the lowest one first.
func Number(bytes string) int {
	n := 0
	for i := range len(bytes) {
		n |= int(bytes[i]) << (8 * i)
	}
	return n
}
