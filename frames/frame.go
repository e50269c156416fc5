package frames

import (
	"slices"

	"skein/api"
	"skein/faults"
	"skein/literals"
	"skein/rolling"
	"skein/scan"
)

// The bits of the first byte of a header.
const (
	windowBits = 7
	sumBit     = 1 << 3
	sizeBit    = 1 << 4
	dictBit    = 1 << 5
	noBits     = 1<<6 | 1<<7
)

// frame is what the header of a frame told, how far its content has come, and what later blocks lean on.
type frame struct {
	summed   bool
	sized    bool
	size     int
	length   int
	sum      rolling.Sum
	literals literals.Reader
}

func headerLength(first byte) int {
	n := 1
	if first&dictBit != 0 {
		n++
	}
	if first&sizeBit != 0 {
		n += 3
	}
	return n
}

func parseHeader(bytes string, limit int, dicts []int) (frame, error) {
	first, rest := bytes[0], bytes[1:]
	if first&noBits != 0 {
		return frame{}, faults.Format
	}
	if window := api.MinWindow << (first & windowBits); window > limit {
		return frame{}, faults.Limit
	}
	if first&dictBit != 0 {
		if !slices.Contains(dicts, int(rest[0])) {
			return frame{}, faults.Dict
		}
		rest = rest[1:]
	}
	return frame{
		summed: first&sumBit != 0,
		sized:  first&sizeBit != 0,
		size:   scan.Number(rest),
		sum:    rolling.Start(),
	}, nil
}

// add takes in the content of a block, unless the size that was told does not allow it.
func (f *frame) add(content string, last bool) error {
	length := f.length + len(content)
	if f.sized && (length > f.size || last && length != f.size) {
		return faults.Format
	}
	f.length = length
	if f.summed {
		f.sum.Add(content)
	}
	return nil
}
