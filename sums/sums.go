// Package sums: the check sum of a frame: see DOC.md.
package sums

import "skein/rolling"

// Sum is the check sum of some bytes (P3).
func Sum(s string) uint32 {
	sum := rolling.Start()
	sum.Add(s)
	return sum.Value()
}
