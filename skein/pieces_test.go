package skein_test

import (
	"math"
	"math/rand"
	"strings"
	"sync"
	"testing"

	"skein/api"
	"skein/skein"
)

// spoil makes some streams wrong: a byte is another one, is left out, or the end is.
func spoil(r *rand.Rand, text string) string {
	if text == "" {
		return text
	}
	at := r.Intn(len(text))
	if r.Intn(2) == 0 {
		at = r.Intn(min(len(text), 16))
	}
	switch r.Intn(6) {
	case 0:
		return text[:at] + little(r.Intn(256), 1) + text[at+1:]
	case 1:
		return text[:at] + little(int(text[at])^1<<r.Intn(8), 1) + text[at+1:]
	case 2:
		return text[:at] + text[at+1:]
	case 3:
		return text[:at]
	}
	return text
}

// call makes one call, drawn, of a reader and of the model, and gives back what is left to feed.
func call(t *testing.T, r *rand.Rand, real *skein.Reader, model *modelReader, rest string) string {
	t.Helper()
	switch r.Intn(8) {
	case 0, 1, 2:
		n := min(len(rest), r.Intn(40))
		if e, want := real.Feed(rest[:n]), model.feed(rest[:n]); e != want {
			t.Fatalf("P6: Feed(%q) behind %q = %d, want %d", rest[:n], model.fed, e, want)
		}
		return rest[n:]
	case 3, 4, 5:
		n := r.Intn(50) - 3
		s, e := real.Read(n)
		if want, f := model.read(n); s != want || e != f {
			t.Fatalf("P6: Read(%d) behind %q = %q, %d, want %q, %d", n, model.fed, s, e, want, f)
		}
	case 6:
		p, e := real.Place()
		if want, f := model.place(); p != want || e != f {
			t.Fatalf("P6: Place behind %q = %+v, %d, want %+v, %d", model.fed, p, e, want, f)
		}
	default:
		if rest != "" && r.Intn(20) > 0 {
			break
		}
		if e, want := real.Close(), model.close(); e != want {
			t.Fatalf("P6: Close behind %q = %d, want %d", model.fed, e, want)
		}
	}
	return rest
}

func TestCallsInAnyOrder(t *testing.T) {
	r := rand.New(rand.NewSource(7))
	seen := map[api.Errno]int{}
	for range 4000 {
		c := drawConfig()
		text := spoil(r, drawStream(r))
		seen[modelOf(c, text, true).e]++
		real, model := fresh(t, c), &modelReader{config: c}
		rest := text
		for range 60 {
			rest = call(t, r, real, model, rest)
		}
	}
	for _, e := range []api.Errno{api.End, api.ErrFormat, api.ErrLimit, api.ErrDict, api.ErrShort, api.ErrSum} {
		if seen[e] < 10 {
			t.Errorf("only %d of the drawn streams end with %d", seen[e], e)
		}
	}
}

// inPieces reads all of a text in pieces of drawn sizes.
func inPieces(t *testing.T, r *rand.Rand, c api.Config, text string) told {
	t.Helper()
	reader := fresh(t, c)
	got := ""
	for rest := text; rest != ""; {
		n := 1 + r.Intn(len(rest))
		if r.Intn(2) == 0 {
			n = 1 + r.Intn(min(5, len(rest)))
		}
		feed(t, reader, rest[:n])
		rest = rest[n:]
		s, _ := reader.Read(r.Intn(2000))
		got += s
	}
	closeIt(t, reader)
	for {
		s, e := reader.Read(1 + r.Intn(100))
		got += s
		if e != api.OK {
			p, _ := reader.Place()
			return told{got, e, p}
		}
	}
}

func TestPiecesMakeNoDifference(t *testing.T) {
	r := rand.New(rand.NewSource(11))
	for range 2000 {
		c := drawConfig()
		text := spoil(r, drawStream(r))
		want := modelOf(c, text, true)
		for range 3 {
			if got := inPieces(t, r, c, text); got != want {
				t.Fatalf("P11: %q in pieces: %v, want %v", text, got, want)
			}
		}
		if want.e == api.End {
			want.e = api.OK
		}
		if got, e := skein.Whole(c, text); got != want.content || e != want.e {
			t.Fatalf("P6: Whole(%q) = %q, %d, want %q, %d", text, got, e, want.content, want.e)
		}
	}
}

func TestCutAnywhere(t *testing.T) {
	r := rand.New(rand.NewSource(12))
	for range 60 {
		c := drawConfig()
		var text string
		ends := map[int]int{0: 1}
		for i := range 3 {
			text += drawFrame(r)
			ends[len(text)] = i + 2
		}
		all, _ := skein.Whole(c, text)
		for n := range len(text) + 1 {
			want := api.ErrShort
			if ends[n] > 0 {
				want = api.OK
			}
			got, e := skein.Whole(c, text[:n])
			if e != want || !strings.HasPrefix(all, got) {
				t.Fatalf("P11: the first %d bytes of %q: %q, %d, want %d", n, text, got, e, want)
			}
			if now := modelOf(c, text[:n], true); now.content != got {
				t.Fatalf("P11: the first %d bytes of %q: %q, want %q", n, text, got, now.content)
			}
		}
	}
}

func TestNothingIsTakenBack(t *testing.T) {
	r := rand.New(rand.NewSource(13))
	for range 300 {
		c := drawConfig()
		text := drawStream(r)
		n := r.Intn(len(text) + 1)
		reader := fresh(t, c)
		feed(t, reader, text[:n])
		soFar, _ := reader.Read(math.MaxInt)
		for range 5 {
			other := make([]byte, r.Intn(40))
			r.Read(other)
			if got, _ := skein.Whole(c, text[:n]+string(other)); !strings.HasPrefix(got, soFar) {
				t.Fatalf("P11: %q gave %q; behind %q it is %q", text[:n], soFar, other, got)
			}
		}
	}
}

// Readers that are fed and read in turn, each its own stream, tell the same as alone.
func TestReadersInTurn(t *testing.T) {
	r := rand.New(rand.NewSource(14))
	for range 150 {
		c := drawConfig()
		var readers [4]*skein.Reader
		var rest, got [4]string
		var want [4]told
		for i := range readers {
			readers[i] = fresh(t, c)
			rest[i] = spoil(r, drawStream(r)+drawFrame(r))
			want[i] = modelOf(c, rest[i], true)
		}
		for strings.Join(rest[:], "") != "" {
			i := r.Intn(len(readers))
			n := min(len(rest[i]), 1+r.Intn(12))
			feed(t, readers[i], rest[i][:n])
			rest[i] = rest[i][n:]
			piece, _ := readers[i].Read(r.Intn(30))
			got[i] += piece
		}
		for i, reader := range readers {
			closeIt(t, reader)
			got[i] += readAll(reader, 100)
			_, e := reader.Read(1)
			p, _ := reader.Place()
			if is := (told{got[i], e, p}); is != want[i] {
				t.Fatalf("P2: a reader beside others: %v, want %v", is, want[i])
			}
		}
	}
}

// Readers that run at the same time, of one stream, from which each builds tables.
func TestReadersAtTheSameTime(t *testing.T) {
	r := rand.New(rand.NewSource(15))
	text := ""
	for range 60 {
		text += drawFrame(r)
	}
	c := drawConfig()
	want := modelOf(c, text, true)
	var group sync.WaitGroup
	var got [8]string
	var ends [8]api.Errno
	for i := range got {
		group.Add(1)
		go func() {
			defer group.Done()
			got[i], ends[i] = skein.Whole(c, text)
		}()
	}
	group.Wait()
	for i := range got {
		if got[i] != want.content || ends[i] != api.OK || want.e != api.End {
			t.Fatalf("P2: a reader at the same time as others: %q, %d, want %q", got[i], ends[i], want.content)
		}
	}
}

// FuzzReader holds any bytes, in two pieces, against the model.
func FuzzReader(f *testing.F) {
	f.Add("SKN1\x18\x03\x00\x00\x19\x00abc\xff\x53\xd1\x32SKIP\x01\x00\x00x", 7)
	f.Add("SKN1\x20\x01\x12\x00xSKN1", 3)
	f.Add("SKN1\x00"+packedBlock(false, freshLiterals([]int{2, 1}, "\x00\x01\x02")+"\x00")+packedBlock(true, lastLiterals([]int{2, 1}, "\x02\x00")+"\x00"), 9)
	f.Add("SKN1\x00"+packedBlock(false, plainLiterals("abc")+"\x00")+packedBlock(true, repeatedLiterals(9, "x")+"\x00"), 11)
	f.Add(packedFrame("\x00", plainLiterals("abcd")+allAgreed().with(sequence{1, 1, 3}, sequence{0, 2, 4}), plainLiterals("x")+allAgreed().again().with(sequence{1, 8, 9})), 20)
	f.Add(packedFrame("\x20\x01", plainLiterals("abcd")+tables{counted(5, 30, 2), single(4), counted(6, 60, -1, 3)}.with(sequence{1, 20, 3}, sequence{0, 31, 5})), 30)
	f.Fuzz(func(t *testing.T, text string, cut int) {
		c := drawConfig()
		want := modelOf(c, text, true)
		reader := fresh(t, c)
		n := max(0, min(cut, len(text)))
		feed(t, reader, text[:n])
		feed(t, reader, text[n:])
		closeIt(t, reader)
		got, _ := reader.Read(math.MaxInt)
		_, e := reader.Read(0)
		p, _ := reader.Place()
		if is := (told{got, e, p}); is != want {
			t.Errorf("%q in two pieces: %v, want %v", text, is, want)
		}
	})
}
