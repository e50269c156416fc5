package codes

import (
	"math/bits"

	"skein/api"
)

// States makes a table of states of counts (P4).
func States(log int, counts []int) ([]api.State, api.Errno) {
	if log < api.MinLog || log > api.MaxLog || !fill(counts, 1<<log) {
		return nil, api.ErrFormat
	}
	table := make([]api.State, 1<<log)
	free := takeFromBehind(table, counts)
	takeByStep(table, counts, free)
	numberStates(table, counts, log)
	return table, api.OK
}

// fill tells whether counts are right for a table of size places. A count above size is refused on the spot,
// since the sum could wrap round to size otherwise.
func fill(counts []int, size int) bool {
	if len(counts) == 0 || len(counts) > api.MaxSymbols {
		return false
	}
	sum := 0
	for _, count := range counts {
		if count < -1 || count > size {
			return false
		}
		sum += placesOf(count)
	}
	return sum == size
}

func placesOf(count int) int {
	if count == -1 {
		return 1
	}
	return count
}

// takeFromBehind places the symbols of count -1, and tells how many places ahead of them are free.
func takeFromBehind(table []api.State, counts []int) int {
	free := len(table)
	for symbol, count := range counts {
		if count == -1 {
			free--
			table[free].Symbol = symbol
		}
	}
	return free
}

// takeByStep places the other symbols. The step is odd, so that it comes by every place once.
func takeByStep(table []api.State, counts []int, free int) {
	size := len(table)
	step := size/2 + size/8 + 3
	place := 0
	for symbol, count := range counts {
		for range count {
			for place >= free {
				place = (place + step) % size
			}
			table[place].Symbol = symbol
			place = (place + step) % size
		}
	}
}

func numberStates(table []api.State, counts []int, log int) {
	var next [api.MaxSymbols]int
	for symbol, count := range counts {
		next[symbol] = placesOf(count)
	}
	for place := range table {
		state := &table[place]
		x := next[state.Symbol]
		next[state.Symbol]++
		state.Bits = log + 1 - bits.Len(uint(x))
		state.Base = x<<state.Bits - 1<<log
	}
}
