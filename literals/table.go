package literals

import (
	"strings"

	"skein/api"
	"skein/codes"
	"skein/faults"
	"skein/scan"
)

// entry is a code: the literal that it stands for, and how many bits it has.
type entry struct {
	value byte
	bits  byte
}

// table tells for any MaxBits bits with which code they begin. Codes leave no gap, so that there always is one.
type table [1 << api.MaxBits]entry

func readTable(bytes *scan.Bytes) (*table, error) {
	weights, err := readWeights(bytes)
	if err != nil {
		return nil, err
	}
	list, e := codes.Codes(weights)
	if e != api.OK {
		return nil, faults.Format
	}
	return newTable(list), nil
}

// readWeights does not count them: Codes refuses too many, and none.
func readWeights(bytes *scan.Bytes) ([]int, error) {
	count, err := bytes.Number(1)
	if err != nil {
		return nil, err
	}
	halves, err := bytes.Take((count + 1) / 2)
	if err != nil {
		return nil, err
	}
	var weights []int
	for i := range len(halves) {
		weights = append(weights, int(halves[i]&15), int(halves[i]>>4))
	}
	if len(weights) > count && weights[count] != 0 {
		return nil, faults.Format
	}
	return weights[:count], nil
}

func newTable(list []api.Code) *table {
	var t table
	for _, code := range list {
		rest := api.MaxBits - code.Bits
		for i := range 1 << rest {
			t[code.Number<<rest+i] = entry{value: byte(code.Value), bits: byte(code.Bits)}
		}
	}
	return &t
}

// decode reads as many codes as the literals are long. They must be all that the bytes hold.
func (t *table) decode(bytes string, length int) (string, error) {
	bits := scan.BitsOf(bytes)
	var text strings.Builder
	for range length {
		next := t[bits.Peek(api.MaxBits)]
		if !bits.Skip(int(next.bits)) {
			return "", faults.Format
		}
		text.WriteByte(next.value)
	}
	if !bits.Done() {
		return "", faults.Format
	}
	return text.String(), nil
}
