// Package frames: a stream is read unit by unit, frames and the blocks in them: see DOC.md.
package frames

import (
	"strings"

	"skein/api"
	"skein/faults"
	"skein/scan"
	"skein/sequences"
)

// unit tells what the next bytes of a stream are.
type unit int

const (
	letters unit = iota
	skipLength
	skipped
	header
	blockHeader
	body
	sum
)

// Stream reads a stream that comes in pieces. Of what came it keeps the unit that is not whole yet, what the blocks
// of the frame that is being read leave to later ones, and the tables of states that were built.
type Stream struct {
	limit  int
	dicts  []api.Dict
	tables sequences.Tables
	place  api.Place
	next   unit
	begun  []byte
	left   int // bytes of a skipped frame that are still to come
	frame  frame
	block  block
}

// New makes a stream of which nothing has come: limit is the largest window, dicts are the dictionaries, a list that
// is the stream's own from now on.
func New(limit int, dicts []api.Dict) *Stream {
	return &Stream{limit: limit, dicts: dicts, tables: sequences.Tables{}}
}

// Feed reads on, and gives the content of the blocks that became whole. An error tells that the stream cannot be
// read any further; the content that comes with it lies ahead of that.
func (s *Stream) Feed(text string) (string, error) {
	var content strings.Builder
	for {
		rest, whole := s.fill(text)
		if !whole {
			return content.String(), nil
		}
		text = rest
		bytes := string(s.begun)
		s.begun = s.begun[:0]
		piece, err := s.read(bytes)
		if err != nil {
			return content.String(), s.fault(err)
		}
		content.WriteString(piece)
	}
}

// Close tells how a stream ends behind which nothing follows: never without an error.
func (s *Stream) Close() error {
	if s.next == letters && len(s.begun) == 0 {
		return s.fault(faults.End)
	}
	return s.fault(faults.Short)
}

func (s *Stream) fault(cause error) error {
	return &faults.Fault{Place: s.place, Cause: cause}
}

// fill moves bytes of text into the next unit, and tells whether it is whole now.
func (s *Stream) fill(text string) (rest string, whole bool) {
	if s.next == skipped {
		return s.skip(text)
	}
	for len(s.begun) < s.length() && text != "" {
		n := min(s.length()-len(s.begun), len(text))
		s.begun = append(s.begun, text[:n]...)
		text = text[n:]
	}
	return text, len(s.begun) == s.length()
}

// skip lets bytes go as they come, since a skipped frame may be far longer than any other unit.
func (s *Stream) skip(text string) (rest string, whole bool) {
	n := min(s.left, len(text))
	s.left -= n
	return text[n:], s.left == 0
}

// length is how many bytes the next unit has. Of a header only the first byte tells, so that it may grow.
func (s *Stream) length() int {
	switch s.next {
	case letters, sum:
		return 4
	case skipLength:
		return 3
	case header:
		if len(s.begun) == 0 {
			return 1
		}
		return headerLength(s.begun[0])
	case blockHeader:
		return 2
	case body:
		return s.block.length()
	}
	return 0
}

// read reads a unit that is whole. Only the body of a block has content.
func (s *Stream) read(bytes string) (string, error) {
	switch s.next {
	case letters:
		return "", s.readLetters(bytes)
	case skipLength:
		s.left = scan.Number(bytes)
		s.next = skipped
	case skipped:
		s.endFrame()
	case header:
		return "", s.readHeader(bytes)
	case blockHeader:
		return "", s.readBlockHeader(bytes)
	case body:
		return s.readBody(bytes)
	case sum:
		return "", s.readSum(bytes)
	}
	return "", nil
}

func (s *Stream) readLetters(bytes string) error {
	switch bytes {
	case "SKIP":
		s.next = skipLength
	case "SKN1":
		s.next = header
	default:
		return faults.Format
	}
	return nil
}

func (s *Stream) readHeader(bytes string) error {
	f, err := s.parseHeader(bytes)
	if err != nil {
		return err
	}
	s.frame = f
	s.next = blockHeader
	return nil
}

func (s *Stream) readBlockHeader(bytes string) error {
	b, err := parseBlock(bytes)
	if err != nil {
		return err
	}
	s.block = b
	s.next = body
	return nil
}

func (s *Stream) readBody(bytes string) (string, error) {
	content, err := s.frame.content(s.block, bytes)
	if err != nil {
		return "", err
	}
	if err := s.frame.add(content, s.block.last); err != nil {
		return "", err
	}
	s.place.Block++
	switch {
	case !s.block.last:
		s.next = blockHeader
	case s.frame.summed:
		s.next = sum
	default:
		s.endFrame()
	}
	return content, nil
}

func (s *Stream) readSum(bytes string) error {
	if uint32(scan.Number(bytes)) != s.frame.sum.Value() {
		return faults.Sum
	}
	s.endFrame()
	return nil
}

// endFrame lets go of all that the frame kept for its blocks.
func (s *Stream) endFrame() {
	s.frame = frame{}
	s.place = api.Place{Frame: s.place.Frame + 1}
	s.next = letters
}
