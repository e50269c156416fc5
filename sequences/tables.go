package sequences

import (
	"skein/api"
	"skein/codes"
	"skein/faults"
)

// table is a table of states. A single state has the log 0, so that no bits are read for it.
type table struct {
	log    int
	states []api.State
}

func singleState(symbol int) table {
	return table{states: []api.State{{Symbol: symbol}}}
}

// counts are what a table is built of. Symbols behind the last one that is told have the count 0, which makes no
// difference to the table.
type counts struct {
	log      int
	ofSymbol [api.MaxSymbols]int
}

// Tables are those that one stream has had built so far, each of them once.
type Tables map[counts]table

func (t Tables) of(c counts) (table, error) {
	if known, ok := t[c]; ok {
		return known, nil
	}
	states, e := codes.States(c.log, c.ofSymbol[:])
	if e != api.OK {
		return table{}, faults.Format
	}
	built := table{log: c.log, states: states}
	t[c] = built
	return built, nil
}
