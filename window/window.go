// Package window: what a frame's matches reach back to, and the content that is made of them: see DOC.md, P10.
package window

import (
	"skein/api"
	"skein/faults"
	"skein/sequences"
)

// Window is the content of a frame so far, ahead of which the dictionary stands. It keeps what a match may reach.
type Window struct {
	size  int
	bytes []byte
}

// New makes the window of a frame that has no content yet; the dictionary is empty, if the frame has none.
func New(size int, dictionary string) Window {
	return Window{size: size, bytes: []byte(dictionary)}
}

// Add takes in the content of a block, and lets go of what no match can reach any more.
func (w *Window) Add(content string) {
	w.bytes = append(w.bytes, content...)
	if beyond := len(w.bytes) - w.size; beyond > 0 {
		w.bytes = append(w.bytes[:0], w.bytes[beyond:]...)
	}
}

// Fill makes the content of a block of its literals and sequences. The window stays as it is, since the frame may
// still refuse the content: it is added behind that.
func (w *Window) Fill(literals string, list []sequences.Sequence) (string, error) {
	all := w.bytes
	for _, s := range list {
		if s.Length > len(literals) {
			return "", faults.Format
		}
		all = append(all, literals[:s.Length]...)
		literals = literals[s.Length:]
		if s.Offset > w.size || s.Offset > len(all) {
			return "", faults.Format
		}
		all = appendMatch(all, s.Offset, s.Match)
	}
	content := string(all[len(w.bytes):]) + literals
	if len(content) > api.MaxBlock {
		return "", faults.Format
	}
	return content, nil
}

// appendMatch goes byte by byte, since a match may reach into itself.
func appendMatch(all []byte, offset, length int) []byte {
	for range length {
		all = append(all, all[len(all)-offset])
	}
	return all
}
