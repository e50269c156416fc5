// Package sums: the check sum of a frame: see DOC.md.
package sums

import "math/bits"

const (
	p1 uint32 = 2654435761
	p2 uint32 = 2246822519
	p3 uint32 = 3266489917
	p4 uint32 = 668265263
	p5 uint32 = 374761393
)

// stripe is how many bytes the four words take at a time.
const stripe = 16

// Sum is the check sum of some bytes (P3).
func Sum(s string) uint32 {
	h := p5
	rest := s
	if len(s) >= stripe {
		h, rest = stripes(s)
	}
	h += uint32(len(s))
	return finish(tail(h, rest))
}

// stripes sums up all whole stripes of s, and gives back what is left of it.
func stripes(s string) (uint32, string) {
	// The first and last word wrap round, which constants may not.
	first := p1
	a, b, c, d := first+p2, p2, uint32(0), -first
	for len(s) >= stripe {
		a = mix(a, number(s))
		b = mix(b, number(s[4:]))
		c = mix(c, number(s[8:]))
		d = mix(d, number(s[12:]))
		s = s[stripe:]
	}
	h := bits.RotateLeft32(a, 1) + bits.RotateLeft32(b, 7) + bits.RotateLeft32(c, 12) + bits.RotateLeft32(d, 18)
	return h, s
}

func mix(word, x uint32) uint32 {
	return bits.RotateLeft32(word+x*p2, 13) * p1
}

// tail takes in what no stripe holds.
func tail(h uint32, s string) uint32 {
	for len(s) >= 4 {
		h = bits.RotateLeft32(h+number(s)*p3, 17) * p4
		s = s[4:]
	}
	for i := range len(s) {
		h = bits.RotateLeft32(h+uint32(s[i])*p5, 11) * p1
	}
	return h
}

func finish(h uint32) uint32 {
	h = (h ^ h>>15) * p2
	h = (h ^ h>>13) * p3
	return h ^ h>>16
}

// number reads the first four bytes of s.
func number(s string) uint32 {
	return uint32(s[0]) | uint32(s[1])<<8 | uint32(s[2])<<16 | uint32(s[3])<<24
}
