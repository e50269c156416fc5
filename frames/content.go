package frames

import (
	"strings"

	"skein/faults"
	"skein/scan"
)

// content makes the content of a block of its bytes.
func (f *frame) content(b block, bytes string) (string, error) {
	switch b.kind {
	case raw:
		return bytes, nil
	case run:
		return strings.Repeat(bytes, b.number), nil
	}
	return f.unpack(scan.Bytes(bytes))
}

// unpack makes the content of a packed block. It is asked of the frame, since such a block leans on earlier ones.
func (f *frame) unpack(bytes scan.Bytes) (string, error) {
	text, err := f.literals.Read(&bytes)
	if err != nil {
		return "", err
	}
	sequences, err := bytes.Number(1)
	if err != nil {
		return "", err
	}
	// Blocks with sequences are not read yet.
	if sequences != 0 || bytes != "" {
		return "", faults.Format
	}
	return text, nil
}
