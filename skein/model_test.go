package skein_test

import (
	"fmt"
	"strings"

	"skein/api"
	"skein/sums"
)

// model reads a text by positions in it, all of it anew each time it is asked, where the program goes on from
// piece to piece. It leaves by a panic with the error that stops it.
type model struct {
	config  api.Config
	text    string
	pos     int
	content string
	at      api.Place
	frame   modelFrame
}

// modelFrame is what the blocks of a frame lean on.
type modelFrame struct {
	start   int // where its content begins
	window  int
	dict    string
	codes   map[string]int // literals by their bits
	tables  [3][]api.State
	offsets []int
}

// told is what a model has come to: its content, the error (Wait, if it has not stopped) and the place.
type told struct {
	content string
	e       api.Errno
	at      api.Place
}

func (a told) String() string {
	return fmt.Sprintf("%q, %d, at %+v", a.content, a.e, a.at)
}

func modelOf(c api.Config, text string, closed bool) (answer told) {
	m := &model{config: c, text: text}
	defer func() {
		e := recover().(api.Errno)
		if !closed && (e == api.End || e == api.ErrShort) {
			answer = told{m.content, api.Wait, api.Place{}}
			return
		}
		answer = told{m.content, e, m.at}
	}()
	for {
		m.readFrame()
		m.at = api.Place{Frame: m.at.Frame + 1}
	}
}

func (m *model) take(n int) string {
	if len(m.text)-m.pos < n {
		panic(api.ErrShort)
	}
	m.pos += n
	return m.text[m.pos-n : m.pos]
}

func (m *model) must(right bool, e api.Errno) {
	if !right {
		panic(e)
	}
}

func value(s string) int {
	if s == "" {
		return 0
	}
	return int(s[0]) + 256*value(s[1:])
}

func (m *model) readFrame() {
	m.must(m.pos < len(m.text), api.End)
	letters := m.take(4)
	if letters == "SKIP" {
		m.take(value(m.take(3)))
		return
	}
	m.must(letters == "SKN1", api.ErrFormat)
	flags := value(m.take(1))
	id, size := -1, -1
	if flags/32%2 == 1 {
		id = value(m.take(1))
	}
	if flags/16%2 == 1 {
		size = value(m.take(3))
	}
	m.must(flags < 64, api.ErrFormat)
	m.must(64<<(flags%8) <= m.config.Limit, api.ErrLimit)
	m.frame = modelFrame{start: len(m.content), window: 64 << (flags % 8), offsets: []int{1, 4, 8}}
	if id >= 0 {
		m.frame.dict = m.dictionary(id)
	}
	for last := false; !last; m.at.Block++ {
		last = m.readBlock(size)
	}
	if flags/8%2 == 1 {
		m.must(uint32(value(m.take(4))) == sums.Sum(m.content[m.frame.start:]), api.ErrSum)
	}
}

func (m *model) dictionary(id int) string {
	for _, d := range m.config.Dicts {
		if d.ID == id {
			return d.Content
		}
	}
	panic(api.ErrDict)
}

func (m *model) readBlock(size int) bool {
	h := value(m.take(2))
	last, kind, n := h%2 == 1, h/2%4, h/8
	m.must(kind != 3 && n <= 1024, api.ErrFormat)
	piece := ""
	switch kind {
	case 0:
		piece = m.take(n)
	case 1:
		piece = strings.Repeat(m.take(1), n)
	default:
		piece = m.unpack(m.take(n))
	}
	length := len(m.content) - m.frame.start + len(piece)
	m.must(size < 0 || length <= size && (!last || length == size), api.ErrFormat)
	m.content += piece
	return last
}

// modelReader answers the calls of a reader by asking the model about all that was fed.
type modelReader struct {
	config api.Config
	fed    string
	closed bool
	given  int
}

func (r *modelReader) feed(s string) api.Errno {
	if r.closed {
		return api.ErrClosed
	}
	r.fed += s
	return api.OK
}

func (r *modelReader) close() api.Errno {
	if r.closed {
		return api.ErrClosed
	}
	r.closed = true
	return api.OK
}

func (r *modelReader) read(n int) (string, api.Errno) {
	now := modelOf(r.config, r.fed, r.closed)
	ready := now.content[r.given:]
	if ready == "" {
		return "", now.e
	}
	n = min(n, len(ready))
	n = max(n, 0)
	r.given += n
	return ready[:n], api.OK
}

func (r *modelReader) place() (api.Place, api.Errno) {
	now := modelOf(r.config, r.fed, r.closed)
	if now.e == api.End {
		return now.at, api.OK
	}
	return now.at, now.e
}
