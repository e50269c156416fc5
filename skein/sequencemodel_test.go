package skein_test

import (
	"slices"
	"strconv"
	"strings"

	"skein/api"
	"skein/codes"
)

// agreedCounts are those of way 0, for lengths, offsets and matches.
var agreedCounts = [3][]int{
	{5, 3, 3, 2, 2, 2, 2, 2, 2, 2, 2, 1, 1, 1, 1, 1},
	{3, 3, 3, 3, 3, 3, 3, 2, 2, 2, 2, 2, 1},
	{5, 3, 3, 2, 2, 2, 2, 2, 2, 2, 2, 1, 1, 1, 1, 1},
}

// symbols tells how many there are for lengths, offsets and matches.
var symbols = [3]int{16, 13, 16}

// readTables reads how the tables are given, by the words of P10.
func (m *model) readTables(block *string) {
	ways := value(m.cut(block, 1))
	m.must(ways < 64, api.ErrFormat)
	for part := range 3 {
		switch ways >> (2 * part) % 4 {
		case 0:
			m.frame.tables[part], _ = codes.States(5, agreedCounts[part])
		case 1:
			symbol := value(m.cut(block, 1))
			m.must(symbol < symbols[part], api.ErrFormat)
			m.frame.tables[part] = []api.State{{Symbol: symbol}}
		case 2:
			m.frame.tables[part] = m.readCounts(block, symbols[part])
		default:
			m.must(m.frame.tables[part] != nil, api.ErrFormat)
		}
	}
}

func (m *model) readCounts(block *string, most int) []api.State {
	head := value(m.cut(block, 1))
	var counts []int
	for _, b := range []byte(m.cut(block, head/16+1)) {
		if b == 255 {
			counts = append(counts, -1)
		} else {
			counts = append(counts, int(b))
		}
	}
	m.must(len(counts) <= most, api.ErrFormat)
	table, e := codes.States(head%16, counts)
	m.must(e == api.OK, api.ErrFormat)
	return table
}

// number takes a number of n bits.
func (m *model) number(bits *string, n int) int {
	v, _ := strconv.ParseInt("0"+m.cut(bits, n), 2, 64)
	return int(v)
}

// follow goes through the bits of sequences, and writes the content out as it goes.
func (m *model) follow(number int, bits, literals string) string {
	f := &m.frame
	var at [3]api.State
	for part, table := range f.tables {
		log := len(strconv.FormatInt(int64(len(table)), 2)) - 1
		at[part] = table[m.number(&bits, log)]
	}
	all := f.dict + m.content[f.start:]
	ahead := len(all)
	for i := range number {
		v := 1<<at[1].Symbol + m.number(&bits, at[1].Symbol)
		match := 3 + m.length(at[2].Symbol, &bits)
		length := m.length(at[0].Symbol, &bits)
		all += m.cut(&literals, length)
		offset := m.offset(v, length)
		m.must(offset > 0 && offset <= f.window && offset <= len(all), api.ErrFormat)
		for range match {
			all += string([]byte{all[len(all)-offset]})
		}
		if i < number-1 {
			at[0] = f.tables[0][at[0].Base+m.number(&bits, at[0].Bits)]
			at[2] = f.tables[2][at[2].Base+m.number(&bits, at[2].Bits)]
			at[1] = f.tables[1][at[1].Base+m.number(&bits, at[1].Bits)]
		}
	}
	m.must(len(bits) < 8 && !strings.Contains(bits, "1"), api.ErrFormat)
	return all[ahead:] + literals
}

func (m *model) length(symbol int, bits *string) int {
	if symbol <= 7 {
		return symbol
	}
	return 1<<(symbol-7) + 6 + m.number(bits, symbol-7)
}

// offset picks an offset out of the last ones, or a new one, and puts it first of them.
func (m *model) offset(v, length int) int {
	last := slices.Clone(m.frame.offsets)
	i := v
	if length == 0 {
		i++
	}
	offset := 0
	switch {
	case v > 3:
		offset = v - 3
	case i == 4:
		offset = last[0] - 1
	default:
		offset = last[i-1]
		last = slices.Delete(last, i-1, i)
	}
	m.frame.offsets = append([]int{offset}, last...)[:3]
	return offset
}
