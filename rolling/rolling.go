// Package rolling: the check sum of bytes that come in pieces, so that those that are summed up need not be kept.
package rolling

import (
	"math/bits"
	"strings"
)

const (
	p1 uint32 = 2654435761
	p2 uint32 = 2246822519
	p3 uint32 = 3266489917
	p4 uint32 = 668265263
	p5 uint32 = 374761393
)

// stripe is how many bytes the four words take at a time.
const stripe = 16

// Sum is the check sum of all bytes so far: the words of the whole stripes, and what no stripe holds yet.
type Sum struct {
	words  [4]uint32
	rest   string
	length uint64
}

// Start is the sum of no bytes.
func Start() Sum {
	// The first and last word wrap round, which constants may not.
	first := p1
	return Sum{words: [4]uint32{first + p2, p2, 0, -first}}
}

// Add takes in the next bytes.
func (s *Sum) Add(text string) {
	s.length += uint64(len(text))
	text = s.rest + text
	for len(text) >= stripe {
		for i := range s.words {
			s.words[i] = mix(s.words[i], number(text[4*i:]))
		}
		text = text[stripe:]
	}
	// A piece of the text would hold on to all of it.
	s.rest = strings.Clone(text)
}

// Value is the sum of what came so far; more may be added behind it.
func (s *Sum) Value() uint32 {
	h := p5
	if s.length >= stripe {
		h = join(s.words)
	}
	h += uint32(s.length)
	return finish(tail(h, s.rest))
}

func mix(word, x uint32) uint32 {
	return bits.RotateLeft32(word+x*p2, 13) * p1
}

func join(words [4]uint32) uint32 {
	return bits.RotateLeft32(words[0], 1) + bits.RotateLeft32(words[1], 7) +
		bits.RotateLeft32(words[2], 12) + bits.RotateLeft32(words[3], 18)
}

// tail takes in what no stripe holds.
func tail(h uint32, s string) uint32 {
	for len(s) >= 4 {
		h = bits.RotateLeft32(h+number(s)*p3, 17) * p4
		s = s[4:]
	}
	for i := range len(s) {
		h = bits.RotateLeft32(h+uint32(s[i])*p5, 11) * p1
	}
	return h
}

func finish(h uint32) uint32 {
	h = (h ^ h>>15) * p2
	h = (h ^ h>>13) * p3
	return h ^ h>>16
}

// number reads the first four bytes of s.
func number(s string) uint32 {
	return uint32(s[0]) | uint32(s[1])<<8 | uint32(s[2])<<16 | uint32(s[3])<<24
}
