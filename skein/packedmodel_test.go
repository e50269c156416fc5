package skein_test

import (
	"fmt"
	"strings"

	"skein/api"
)

// unpack reads the bytes of a block of kind 2 by the words of P9 and P10. Bits are texts of noughts and ones here.
func (m *model) unpack(block string) string {
	head := value(m.cut(&block, 2))
	kind, n := head%4, head/4%2048
	m.must(head < 1<<13 && n <= 1024, api.ErrFormat)
	literals := ""
	switch kind {
	case 0:
		literals = m.cut(&block, n)
	case 1:
		literals = strings.Repeat(m.cut(&block, 1), n)
	case 2:
		m.frame.codes = m.readCodes(&block)
		literals = m.decode(&block, n)
	default:
		m.must(m.frame.codes != nil, api.ErrFormat)
		literals = m.decode(&block, n)
	}
	number := value(m.cut(&block, 1))
	if number == 0 {
		m.must(block == "", api.ErrFormat)
		return literals
	}
	m.readTables(&block)
	content := m.follow(number, digits(block), literals)
	m.must(len(content) <= 1024, api.ErrFormat)
	return content
}

// cut takes bytes of a block, which must be there.
func (m *model) cut(block *string, n int) string {
	m.must(n <= len(*block), api.ErrFormat)
	cut := (*block)[:n]
	*block = (*block)[n:]
	return cut
}

func (m *model) readCodes(block *string) map[string]int {
	count := value(m.cut(block, 1))
	digits := ""
	for _, b := range []byte(m.cut(block, count/2+count%2)) {
		digits += fmt.Sprintf("%x%x", b%16, b/16)
	}
	m.must(strings.Trim(digits[count:], "0") == "" && count <= 128, api.ErrFormat)
	var weights []int
	for _, digit := range digits[:count] {
		weights = append(weights, strings.IndexRune("0123456789abcdef", digit))
	}
	codes := codesOf(weights)
	m.must(codes != nil, api.ErrFormat)
	return codes
}

// codesOf gives the literals by the bits of their codes, or nil if the weights make none. It tries each weight that
// might follow, and writes the numbers of b bits out, of which a code is the beginning.
func codesOf(weights []int) map[string]int {
	for last := 1; last <= 8; last++ {
		all := append(append([]int{}, weights...), last)
		total := 0
		for _, w := range all {
			total += 1 << w / 2
		}
		b := 0
		for 1<<b < total {
			b++
		}
		if 1<<b != total || b > 8 || 2*(total-1<<last/2) < total || len(weights) == 0 {
			continue
		}
		codes := map[string]int{}
		start := 0
		for w := 1; w <= 8; w++ {
			for v := range all {
				if all[v] == w {
					codes[fmt.Sprintf("%0*b", b, start)[:b+1-w]] = v
					start += 1 << w / 2
				}
			}
		}
		return codes
	}
	return nil
}

// digits are the bits of some bytes as noughts and ones.
func digits(bytes string) string {
	bits := ""
	for _, b := range []byte(bytes) {
		bits += fmt.Sprintf("%08b", b)
	}
	return bits
}

func (m *model) decode(block *string, n int) string {
	bits := digits(m.cut(block, value(m.cut(block, 2))))
	literals := ""
	for range n {
		v, length := 0, 0
		for known := false; !known; v, known = m.frame.codes[bits[:length]] {
			length++
			m.must(length <= len(bits), api.ErrFormat)
		}
		literals += little(v, 1)
		bits = bits[length:]
	}
	m.must(len(bits) < 8 && !strings.Contains(bits, "1"), api.ErrFormat)
	return literals
}
