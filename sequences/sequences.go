// Package sequences: the sequences of packed blocks: see DOC.md, P10.
package sequences

import (
	"skein/api"
	"skein/faults"
	"skein/scan"
)

// Sequence tells of how many literals and of which match the next content of a block is made.
type Sequence struct {
	Length int // of the literals
	Offset int // how far back the match lies
	Match  int // its length
}

// Reader reads the sequences of the packed blocks of one frame.
type Reader struct {
	tables Tables
	last   [parts]table // without states, as long as no block had one for the part
	recent lastOffsets
}

// New makes a reader for a frame. The tables are those of its stream.
func New(tables Tables) Reader {
	return Reader{tables: tables, recent: lastOffsets{1, 4, 8}}
}

// Read reads the sequences of a block, whose bytes they are up to the last one.
func (r *Reader) Read(bytes scan.Bytes) ([]Sequence, error) {
	number, err := bytes.Number(1)
	if err != nil {
		return nil, err
	}
	if number == 0 {
		return nil, wantNone(bytes)
	}
	if err := r.readTables(&bytes); err != nil {
		return nil, err
	}
	bits := scan.BitsOf(string(bytes))
	list, err := r.readList(number, bits)
	if err != nil {
		return nil, err
	}
	if !bits.Done() {
		return nil, faults.Format
	}
	return list, nil
}

func wantNone(bytes scan.Bytes) error {
	if bytes != "" {
		return faults.Format
	}
	return nil
}

// readList may read more bits than there are: they are 0 then, and it is Done that tells so.
func (r *Reader) readList(number int, bits *scan.Bits) ([]Sequence, error) {
	var list []Sequence
	now := r.firstStates(bits)
	for {
		sequence, err := r.readSequence(now, bits)
		if err != nil {
			return nil, err
		}
		list = append(list, sequence)
		if len(list) == number {
			return list, nil
		}
		now = r.nextStates(now, bits)
	}
}

// states are those of which a sequence is made, one of each part's table.
type states [parts]api.State

func (r *Reader) firstStates(bits *scan.Bits) states {
	var first states
	for part, given := range r.last {
		first[part] = given.states[bits.Take(given.log)]
	}
	return first
}

func (r *Reader) nextStates(now states, bits *scan.Bits) states {
	for _, part := range [...]int{lengths, matches, offsets} {
		state := now[part]
		now[part] = r.last[part].states[state.Base+bits.Take(state.Bits)]
	}
	return now
}

func (r *Reader) readSequence(now states, bits *scan.Bits) (Sequence, error) {
	value := readValue(now[offsets].Symbol, bits)
	match := readLength(now[matches].Symbol, bits) + 3
	length := readLength(now[lengths].Symbol, bits)
	offset := r.recent.take(value, length)
	if offset == 0 {
		return Sequence{}, faults.Format
	}
	return Sequence{Length: length, Offset: offset, Match: match}, nil
}

// readValue reads what stands for an offset.
func readValue(symbol int, bits *scan.Bits) int {
	return 1<<symbol + bits.Take(symbol)
}

func readLength(symbol int, bits *scan.Bits) int {
	if symbol < 8 {
		return symbol
	}
	extra := symbol - 7
	return 1<<extra + 6 + bits.Take(extra)
}
