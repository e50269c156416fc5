package scan

// Bits are the bits of some bytes, read from the first byte on, of each byte the highest bit first.
type Bits struct {
	bytes string
	next  int
}

// BitsOf gives the bits of some bytes, of which none has been read.
func BitsOf(bytes string) *Bits {
	return &Bits{bytes: bytes}
}

// Peek is the number that the next n bits make. Behind the last bit it sees noughts, so that a short code can be
// found by the bits of a long one.
func (b *Bits) Peek(n int) int {
	number := 0
	for i := range n {
		number = number<<1 | b.bit(b.next+i)
	}
	return number
}

func (b *Bits) bit(i int) int {
	if i >= 8*len(b.bytes) {
		return 0
	}
	return int(b.bytes[i/8]) >> (7 - i%8) & 1
}

// Skip goes on by n bits, if there are so many.
func (b *Bits) Skip(n int) bool {
	if b.left() < n {
		return false
	}
	b.next += n
	return true
}

// Take reads the next n bits as a number. It goes on behind the last bit, with noughts; Done is false then.
func (b *Bits) Take(n int) int {
	number := b.Peek(n)
	b.next += n
	return number
}

// Done tells whether nothing is left but what fills the last byte: fewer than 8 bits, all of them 0.
func (b *Bits) Done() bool {
	left := b.left()
	return left >= 0 && left < 8 && b.Peek(left) == 0
}

func (b *Bits) left() int {
	return 8*len(b.bytes) - b.next
}
