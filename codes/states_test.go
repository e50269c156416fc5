package codes

import (
	"math"
	"math/rand"
	"slices"
	"testing"

	"skein/api"
)

func TestStatesOfOneSymbol(t *testing.T) {
	for _, log := range []int{api.MinLog, api.MaxLog} {
		table, e := States(log, []int{1 << log})
		if e != api.OK || len(table) != 1<<log {
			t.Fatalf("P4: log %d, one symbol: %v, %d", log, table, e)
		}
		for place, state := range table {
			if state != (api.State{Base: place}) {
				t.Errorf("P4: log %d, one symbol: place %d is %+v", log, place, state)
			}
		}
	}
}

func TestStatesOfTwoSymbols(t *testing.T) {
	table, e := States(5, []int{16, 16})
	if e != api.OK || len(table) != 32 {
		t.Fatalf("P4: States(5, [16 16]) = %v, %d", table, e)
	}
	first := []int{0, 23, 14, 5, 28, 19, 10, 1, 24, 15, 6, 29, 20, 11, 2, 25}
	var seen [2]int
	for place, state := range table {
		symbol := 1
		if slices.Contains(first, place) {
			symbol = 0
		}
		if want := (api.State{Symbol: symbol, Bits: 1, Base: 2 * seen[symbol]}); state != want {
			t.Errorf("P4: States(5, [16 16]): place %d is %+v, want %+v", place, state, want)
		}
		seen[symbol]++
	}
}

// fromRows turns rows of symbol, bits and base into states.
func fromRows(rows [][3]int) []api.State {
	var table []api.State
	for _, row := range rows {
		table = append(table, api.State{Symbol: row[0], Bits: row[1], Base: row[2]})
	}
	return table
}

func TestStatesWrittenOut(t *testing.T) {
	for _, c := range []struct {
		log    int
		counts []int
		want   [][3]int
	}{
		{5, []int{5, 3, 3, 2, 2, 2, 2, 2, 2, 2, 2, 1, 1, 1, 1, 1}, [][3]int{
			{0, 3, 8}, {1, 4, 16}, {4, 4, 0}, {8, 4, 0}, {12, 5, 0}, {0, 3, 16}, {2, 4, 16}, {6, 4, 0},
			{9, 4, 0}, {15, 5, 0}, {1, 3, 0}, {4, 4, 16}, {7, 4, 0}, {11, 5, 0}, {0, 3, 24}, {2, 3, 0},
			{5, 4, 0}, {9, 4, 16}, {14, 5, 0}, {1, 3, 8}, {3, 4, 0}, {7, 4, 16}, {10, 4, 0}, {0, 2, 0},
			{2, 3, 8}, {5, 4, 16}, {8, 4, 16}, {13, 5, 0}, {0, 2, 4}, {3, 4, 16}, {6, 4, 16}, {10, 4, 16},
		}},
		{5, []int{-1, -1, -1, -1, -1, -1, -1, -1, -1, -1, -1, -1, -1, -1, -1, 17}, [][3]int{
			{15, 1, 2}, {15, 1, 4}, {15, 1, 6}, {15, 1, 8}, {15, 1, 10}, {15, 1, 12}, {15, 1, 14}, {15, 1, 16},
			{15, 1, 18}, {15, 1, 20}, {15, 1, 22}, {15, 1, 24}, {15, 1, 26}, {15, 1, 28}, {15, 1, 30}, {15, 0, 0},
			{15, 0, 1}, {14, 5, 0}, {13, 5, 0}, {12, 5, 0}, {11, 5, 0}, {10, 5, 0}, {9, 5, 0}, {8, 5, 0},
			{7, 5, 0}, {6, 5, 0}, {5, 5, 0}, {4, 5, 0}, {3, 5, 0}, {2, 5, 0}, {1, 5, 0}, {0, 5, 0},
		}},
		{6, []int{-1, 0, 20, -1, 1, 38, 3, 0}, [][3]int{
			{2, 2, 16}, {2, 2, 20}, {2, 2, 24}, {2, 2, 28}, {2, 2, 32}, {2, 2, 36}, {2, 2, 40}, {5, 1, 12},
			{5, 1, 14}, {5, 1, 16}, {5, 1, 18}, {5, 1, 20}, {5, 1, 22}, {5, 1, 24}, {5, 1, 26}, {5, 1, 28},
			{5, 1, 30}, {5, 1, 32}, {5, 1, 34}, {5, 1, 36}, {6, 5, 32}, {6, 4, 0}, {2, 2, 44}, {2, 2, 48},
			{2, 2, 52}, {2, 2, 56}, {2, 2, 60}, {2, 1, 0}, {4, 6, 0}, {5, 1, 38}, {5, 1, 40}, {5, 1, 42},
			{5, 1, 44}, {5, 1, 46}, {5, 1, 48}, {5, 1, 50}, {5, 1, 52}, {5, 1, 54}, {5, 1, 56}, {5, 1, 58},
			{5, 1, 60}, {5, 1, 62}, {6, 4, 16}, {2, 1, 2}, {2, 1, 4}, {2, 1, 6}, {2, 1, 8}, {2, 1, 10},
			{2, 1, 12}, {2, 1, 14}, {5, 0, 0}, {5, 0, 1}, {5, 0, 2}, {5, 0, 3}, {5, 0, 4}, {5, 0, 5},
			{5, 0, 6}, {5, 0, 7}, {5, 0, 8}, {5, 0, 9}, {5, 0, 10}, {5, 0, 11}, {3, 6, 0}, {0, 6, 0},
		}},
	} {
		if table, e := States(c.log, c.counts); e != api.OK || !slices.Equal(table, fromRows(c.want)) {
			t.Errorf("P4: States(%d, %v) = %v, %d, want %v", c.log, c.counts, table, e, c.want)
		}
	}
}

func TestStatesOfWrongInputs(t *testing.T) {
	for _, c := range []struct {
		what   string
		log    int
		counts []int
	}{
		{"log below MinLog", 4, []int{16}},
		{"log above MaxLog", 7, []int{128}},
		{"log 0", 0, []int{1}},
		{"log below 0", -1, []int{1}},
		{"log 64", 64, []int{0}},
		{"least log", math.MinInt, []int{0}},
		{"greatest log", math.MaxInt, []int{1}},
		{"no list", 5, nil},
		{"an empty list", 5, []int{}},
		{"one count too many", 5, slices.Repeat([]int{2}, 17)},
		{"one count too many, of 0", 5, append(slices.Repeat([]int{2}, 16), 0)},
		{"one count too many, log 6", 6, append(slices.Repeat([]int{4}, 16), 0)},
		{"a count of -2", 5, []int{34, -2}},
		{"a count of -2 beside the right sum", 5, []int{32, -2}},
		{"a count of -2 taken off the right sum", 5, []int{17, 17, -2}},
		{"a count of -32 taken off the right sum", 5, []int{32, 32, -32}},
		{"a count of -2 as if it took two", 5, []int{30, -2}},
		{"the least count", 5, []int{32, math.MinInt}},
		{"the least count twice", 5, []int{math.MinInt, math.MinInt, 32}},
		{"the greatest count", 5, []int{math.MaxInt}},
		{"a sum that wraps round", 5, []int{math.MaxInt, math.MaxInt, 34}},
		{"a sum that wraps round by four", 6, []int{1 << 62, 1 << 62, 1 << 62, 1 << 62, 64}},
		{"one too few", 5, []int{31}},
		{"one too many", 5, []int{33}},
		{"-1 taken off", 5, []int{33, -1}},
		{"-1 on top", 5, []int{32, -1}},
		{"the other log's sum", 6, []int{32}},
		{"the other log's sum", 5, []int{64}},
		{"noughts", 5, make([]int, 16)},
		{"only -1", 5, slices.Repeat([]int{-1}, 16)},
	} {
		if table, e := States(c.log, c.counts); table != nil || e != api.ErrFormat {
			t.Errorf("P4: %s: States(%d, %v) = %v, %d, want nil and ErrFormat", c.what, c.log, c.counts, table, e)
		}
	}
}

// modelSymbols walks the places in another way than the program: it lists the free ones ahead of giving them out.
func modelSymbols(size int, counts []int) []int {
	symbols := slices.Repeat([]int{-1}, size)
	last := size - 1
	for symbol, count := range counts {
		if count == -1 {
			symbols[last] = symbol
			last--
		}
	}
	var open []int
	for i := range size {
		if place := i * (size/2 + size/8 + 3) % size; symbols[place] < 0 {
			open = append(open, place)
		}
	}
	for symbol, count := range counts {
		for range max(count, 0) {
			symbols[open[0]] = symbol
			open = open[1:]
		}
	}
	return symbols
}

func modelStates(log int, counts []int) []api.State {
	symbols := modelSymbols(1<<log, counts)
	var table []api.State
	for place, symbol := range symbols {
		x := max(counts[symbol], -counts[symbol])
		for _, earlier := range symbols[:place] {
			if earlier == symbol {
				x++
			}
		}
		k := 0
		for 1<<(k+1) <= x {
			k++
		}
		table = append(table, api.State{Symbol: symbol, Bits: log - k, Base: x*(1<<(log-k)) - 1<<log})
	}
	return table
}

// drawCounts draws counts that are right, of -1 and 0 too.
func drawCounts(r *rand.Rand, size int) []int {
	var counts []int
	for left := size; left > 0; {
		count := r.Intn(min(left, 1+r.Intn(size))+2) - 1
		if len(counts) == api.MaxSymbols-1 || count > left {
			count = left
		}
		counts = append(counts, count)
		left -= max(count, -count)
	}
	return counts
}

func TestStatesAgainstModel(t *testing.T) {
	r := rand.New(rand.NewSource(4))
	for i := range 2000 {
		log := api.MinLog + i%2
		counts := drawCounts(r, 1<<log)
		if table, e := States(log, counts); e != api.OK || !slices.Equal(table, modelStates(log, counts)) {
			t.Fatalf("P4: States(%d, %v) = %v, %d, want %v", log, counts, table, e, modelStates(log, counts))
		}
	}
}

func TestStatesLeaveTheCountsAlone(t *testing.T) {
	for _, c := range []struct {
		counts []int
		want   api.Errno
	}{
		{[]int{-1, 3, 27, -1}, api.OK},
		{[]int{-1, 3, 28, -1}, api.ErrFormat},
	} {
		room := append(slices.Clone(c.counts), 77, 78, 79)
		if _, e := States(5, room[:len(c.counts)]); e != c.want {
			t.Errorf("P4: States(5, %v): %d, want %d", c.counts, e, c.want)
		}
		if want := append(slices.Clone(c.counts), 77, 78, 79); !slices.Equal(room, want) {
			t.Errorf("P2: States wrote into the counts or their spare room: %v, want %v", room, want)
		}
	}
}

func TestStatesShareNoRoom(t *testing.T) {
	counts := []int{-1, 3, 27, -1}
	first, _ := States(5, counts)
	second, _ := States(5, counts)
	want := slices.Clone(second)
	for i := range first[:cap(first)] {
		first[:cap(first)][i] = api.State{Symbol: 99, Bits: 99, Base: 99}
	}
	counts[1], counts[2] = 30, 0
	if !slices.Equal(second, want) {
		t.Errorf("P2: an earlier table, overwritten, shows in a later one: %v", second)
	}
	if third, _ := States(5, []int{-1, 3, 27, -1}); !slices.Equal(third, want) {
		t.Errorf("P2: an earlier table, overwritten, shows in a new one: %v", third)
	}
}
