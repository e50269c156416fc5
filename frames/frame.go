package frames

import (
	"skein/api"
	"skein/faults"
	"skein/literals"
	"skein/rolling"
	"skein/scan"
	"skein/sequences"
	"skein/window"
)

// The bits of the first byte of a header.
const (
	windowBits = 7
	sumBit     = 1 << 3
	sizeBit    = 1 << 4
	dictBit    = 1 << 5
	noBits     = 1<<6 | 1<<7
)

// frame is what the header of a frame told, how far its content has come, and what later blocks lean on.
type frame struct {
	summed    bool
	sized     bool
	size      int
	length    int
	sum       rolling.Sum
	literals  literals.Reader
	sequences sequences.Reader
	window    window.Window
}

func headerLength(first byte) int {
	n := 1
	if first&dictBit != 0 {
		n++
	}
	if first&sizeBit != 0 {
		n += 3
	}
	return n
}

func (s *Stream) parseHeader(bytes string) (frame, error) {
	first, rest := bytes[0], bytes[1:]
	if first&noBits != 0 {
		return frame{}, faults.Format
	}
	windowSize := api.MinWindow << (first & windowBits)
	if windowSize > s.limit {
		return frame{}, faults.Limit
	}
	dictionary := ""
	if first&dictBit != 0 {
		var err error
		if dictionary, err = s.dictionary(int(rest[0])); err != nil {
			return frame{}, err
		}
		rest = rest[1:]
	}
	return frame{
		summed:    first&sumBit != 0,
		sized:     first&sizeBit != 0,
		size:      scan.Number(rest),
		sum:       rolling.Start(),
		sequences: sequences.New(s.tables),
		window:    window.New(windowSize, dictionary),
	}, nil
}

func (s *Stream) dictionary(id int) (string, error) {
	for _, d := range s.dicts {
		if d.ID == id {
			return d.Content, nil
		}
	}
	return "", faults.Dict
}

// add takes in the content of a block, unless the size that was told does not allow it.
func (f *frame) add(content string, last bool) error {
	length := f.length + len(content)
	if f.sized && (length > f.size || last && length != f.size) {
		return faults.Format
	}
	f.length = length
	f.window.Add(content)
	if f.summed {
		f.sum.Add(content)
	}
	return nil
}
