package frames

import (
	"strings"

	"skein/scan"
)

// content makes the content of a block of its bytes.
func (f *frame) content(b block, bytes string) (string, error) {
	switch b.kind {
	case raw:
		return bytes, nil
	case run:
		return strings.Repeat(bytes, b.number), nil
	}
	return f.unpack(scan.Bytes(bytes))
}

// unpack makes the content of a packed block. It is asked of the frame, since such a block leans on earlier ones.
func (f *frame) unpack(bytes scan.Bytes) (string, error) {
	text, err := f.literals.Read(&bytes)
	if err != nil {
		return "", err
	}
	list, err := f.sequences.Read(bytes)
	if err != nil {
		return "", err
	}
	return f.window.Fill(text, list)
}
