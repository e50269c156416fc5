package skein_test

import (
	"math/rand"
	"strings"
	"testing"

	"skein/api"
	"skein/skein"
	"skein/sums"
)

// stream is a text, and what a reader tells of it.
type stream struct {
	what, text, want string
	e                api.Errno
	frame, block     int
}

// check reads a stream in one go, byte by byte, and in two pieces.
func check(t *testing.T, c api.Config, s stream) {
	t.Helper()
	if got, e := skein.Whole(c, s.text); got != s.want || e != s.e {
		t.Errorf("%s: Whole(%q) = %q, %d, want %q, %d", s.what, s.text, got, e, s.want, s.e)
	}
	for _, size := range []int{1, 3, len(s.text)/2 + 1} {
		r := fresh(t, c)
		for rest := s.text; rest != ""; {
			n := min(size, len(rest))
			feed(t, r, rest[:n])
			rest = rest[n:]
		}
		closeIt(t, r)
		if p, e := r.Place(); p != (api.Place{Frame: s.frame, Block: s.block}) || e != s.e {
			t.Errorf("%s: %q in pieces of %d: at %+v, %d, want %d, %d, %d", s.what, s.text, size, p, e, s.frame, s.block, s.e)
		}
		got := readAll(r, size)
		end := s.e
		if end == api.OK {
			end = api.End
		}
		if x, e := r.Read(1); got != s.want || x != "" || e != end {
			t.Errorf("%s: %q in pieces of %d: %q, then %q, %d, want %q, then %d", s.what, s.text, size, got, x, e, s.want, end)
		}
	}
}

// readAll reads what is ready, in pieces.
func readAll(r *skein.Reader, size int) string {
	var all strings.Builder
	for {
		piece, e := r.Read(size)
		if e != api.OK {
			return all.String()
		}
		all.WriteString(piece)
	}
}

func TestFrames(t *testing.T) {
	abc := "SKN1\x00\x19\x00abc"
	for _, s := range []stream{
		{"an empty stream", "", "", api.OK, 0, 0},
		{"a frame", abc, "abc", api.OK, 1, 0},
		{"frames one behind the other", abc + "SKN1\x02\x11\x00de" + abc, "abcdeabc", api.OK, 3, 0},
		{"a frame without content", "SKN1\x00\x01\x00", "", api.OK, 1, 0},
		{"frames without content", strings.Repeat("SKN1\x00\x01\x00", 5), "", api.OK, 5, 0},
		{"a skipped frame", "SKIP\x02\x00\x00xy", "", api.OK, 1, 0},
		{"an empty skipped frame", "SKIP\x00\x00\x00", "", api.OK, 1, 0},
		{"skipped frames on all sides", "SKIP\x01\x00\x00x" + abc + "SKIP\x00\x00\x00SKIP\x03\x00\x00xyz" + abc + "SKIP\x00\x00\x00", "abcabc", api.OK, 6, 0},
		{"a skipped frame that holds a frame", "SKIP\x0a\x00\x00" + abc, "", api.OK, 1, 0},
		{"a skipped frame that holds what is none", "SKIP\x04\x00\x00SKN2" + abc, "abc", api.OK, 2, 0},
		{"a skipped frame of a byte fewer", "SKIP\x09\x00\x00" + abc, "", api.ErrShort, 1, 0},
		{"a skipped frame of a byte more", "SKIP\x0b\x00\x00" + abc, "", api.ErrShort, 0, 0},
		{"a skipped frame whose length is cut", abc + "SKIP\x00\x00", "abc", api.ErrShort, 1, 0},
		{"a skipped frame without length", abc + "SKIP", "abc", api.ErrShort, 1, 0},
		{"a skipped frame with nothing in it", abc + "SKIP\x01\x00\x00", "abc", api.ErrShort, 1, 0},
		{"a skipped frame of far more bytes", "SKIP\x00\x00\x01" + strings.Repeat("x", 65535), "", api.ErrShort, 0, 0},
		{"other letters", "SKN2" + abc, "", api.ErrFormat, 0, 0},
		{"other letters behind a frame", abc + "SKN0" + abc, "abc", api.ErrFormat, 1, 0},
		{"other letters behind skipped frames", "SKIP\x00\x00\x00" + abc + "SKIp\x00\x00\x00", "abc", api.ErrFormat, 2, 0},
		{"small letters", "skip\x00\x00\x00", "", api.ErrFormat, 0, 0},
		{"noughts", "\x00\x00\x00\x00", "", api.ErrFormat, 0, 0},
		{"letters in another order", "1NKS\x00\x01\x00", "", api.ErrFormat, 0, 0},
		{"three letters that are none", "xyz", "", api.ErrShort, 0, 0},
		{"three letters that are none, behind a frame", abc + "xyz", "abc", api.ErrShort, 1, 0},
		{"a byte too many", abc + "\x00", "abc", api.ErrShort, 1, 0},
		{"four bytes too many", abc + "\x00\x00\x00\x00", "abc", api.ErrFormat, 1, 0},
		{"no last block", "SKN1\x00\x18\x00abc", "abc", api.ErrShort, 0, 1},
		{"no last block, and another frame", "SKN1\x00\x18\x00abc" + abc, "abc", api.ErrFormat, 0, 1},
	} {
		check(t, widest, s)
	}
}

func TestSkippedFrameOfTheGreatestLength(t *testing.T) {
	abc := "SKN1\x00\x19\x00abc"
	for _, n := range []int{255, 256, 0x010203, 0x030201, 0xffffff} {
		r := fresh(t, widest)
		feed(t, r, "SKIP"+little(n, 3))
		piece := strings.Repeat("x", 10007)
		for left := n; left > 0; left -= min(left, len(piece)) {
			wantPlace(t, r, 0, 0, api.Wait)
			feed(t, r, piece[:min(left, len(piece))])
		}
		feed(t, r, abc)
		wantRead(t, r, 9, "abc", api.OK)
		closeIt(t, r)
		wantPlace(t, r, 2, 0, api.OK)
	}
}

func TestHeaders(t *testing.T) {
	c := api.Config{Limit: 128, Dicts: dicts(9, 0, 255)}
	body := "\x19\x00abc"
	for _, s := range []stream{
		{"window 64", "SKN1\x00" + body, "abc", api.OK, 1, 0},
		{"the window of the limit", "SKN1\x01" + body, "abc", api.OK, 1, 0},
		{"a window above the limit", "SKN1\x02" + body, "", api.ErrLimit, 0, 0},
		{"the greatest window", "SKN1\x07" + body, "", api.ErrLimit, 0, 0},
		{"a window above the limit in the second frame", "SKN1\x00" + body + "SKN1\x03", "abc", api.ErrLimit, 1, 0},
		{"bit 6", "SKN1\x40" + body, "", api.ErrFormat, 0, 0},
		{"bit 7", "SKN1\x80" + body, "", api.ErrFormat, 0, 0},
		{"bits 6 and 7", "SKN1\xc0" + body, "", api.ErrFormat, 0, 0},
		{"bit 6 ahead of the window", "SKN1\x47" + body, "", api.ErrFormat, 0, 0},
		{"bit 7 ahead of window and dictionary", "SKN1\xa7\x08" + body, "", api.ErrFormat, 0, 0},
		{"a dictionary", "SKN1\x20\x09" + body, "abc", api.OK, 1, 0},
		{"a dictionary with the ID 0", "SKN1\x20\x00" + body, "abc", api.OK, 1, 0},
		{"a dictionary with the ID 255", "SKN1\x21\xff" + body, "abc", api.OK, 1, 0},
		{"a dictionary that is not there", "SKN1\x20\x08" + body, "", api.ErrDict, 0, 0},
		{"the window ahead of the dictionary", "SKN1\x22\x08" + body, "", api.ErrLimit, 0, 0},
		{"dictionary and size", "SKN1\x30\x09\x03\x00\x00" + body, "abc", api.OK, 1, 0},
		{"dictionary, size and sum", "SKN1\x39\x09\x03\x00\x00" + body + sumOf("abc"), "abc", api.OK, 1, 0},
		{"no dictionary, but a size", "SKN1\x30\x08\x03\x00\x00" + body, "", api.ErrDict, 0, 0},
		{"no header", "SKN1", "", api.ErrShort, 0, 0},
		{"no ID", "SKN1\x20", "", api.ErrShort, 0, 0},
		{"no size", "SKN1\x10", "", api.ErrShort, 0, 0},
		{"half a size", "SKN1\x10\x03\x00", "", api.ErrShort, 0, 0},
		{"an ID and half a size, both wrong", "SKN1\xf7\x08\x03\x00", "", api.ErrShort, 0, 0},
		{"nothing behind the header", "SKN1\x20\x09", "", api.ErrShort, 0, 0},
	} {
		check(t, c, s)
	}
}

func TestEachLimitAndWindow(t *testing.T) {
	for w, window := range []int{64, 128, 256, 512, 1024, 2048, 4096, 8192} {
		text := "SKN1" + string(rune(w)) + "\x19\x00abc"
		for _, limit := range []int{64, window - 1, window, window + 1, 8192} {
			if limit < 64 || limit > 8192 {
				continue
			}
			s := stream{"a window", text, "abc", api.OK, 1, 0}
			if limit < window {
				s = stream{"a window above the limit", text, "", api.ErrLimit, 0, 0}
			}
			check(t, api.Config{Limit: limit}, s)
		}
	}
}

func TestEachID(t *testing.T) {
	for id := range 256 {
		text := "SKN1\x20" + little(id, 1) + "\x19\x00abc"
		check(t, api.Config{Limit: 64, Dicts: dicts(id)}, stream{"the dictionary", text, "abc", api.OK, 1, 0})
		others := api.Config{Limit: 64, Dicts: dicts((id+1)%256, (id+255)%256, (id+128)%256)}
		check(t, others, stream{"other dictionaries", text, "", api.ErrDict, 0, 0})
		check(t, api.Config{Limit: 64}, stream{"no dictionary", text, "", api.ErrDict, 0, 0})
	}
}

func TestBlocks(t *testing.T) {
	for _, s := range []stream{
		{"example 5", "SKN1\x00\x23\x00x", "xxxx", api.OK, 1, 0},
		{"blocks of both kinds", "SKN1\x00" + rawBlock(false, "ab") + runBlock(false, 3, "\x00") + rawBlock(true, "c"), "ab\x00\x00\x00c", api.OK, 1, 0},
		{"empty ones among them", "SKN1\x00" + rawBlock(false, "") + runBlock(false, 0, "x") + rawBlock(false, "a") + runBlock(false, 0, "y") + rawBlock(true, ""), "a", api.OK, 1, 0},
		{"a run of nothing, the last one", "SKN1\x00" + runBlock(true, 0, "x"), "", api.OK, 1, 0},
		{"a run of one", "SKN1\x00" + runBlock(true, 1, "\xff"), "\xff", api.OK, 1, 0},
		{"a raw block of a frame's letters", "SKN1\x00" + rawBlock(true, "SKN1\x00\x01\x00"), "SKN1\x00\x01\x00", api.OK, 1, 0},
		{"kind 3", "SKN1\x00" + blockHeader(true, 3, 1) + "x", "", api.ErrFormat, 0, 0},
		{"kind 3, of nothing", "SKN1\x00" + blockHeader(false, 3, 0), "", api.ErrFormat, 0, 0},
		{"kind 3 behind others", "SKN1\x00" + rawBlock(false, "a") + runBlock(false, 2, "b") + blockHeader(true, 3, 1), "abb", api.ErrFormat, 0, 2},
		{"half a block header", "SKN1\x00\x18", "", api.ErrShort, 0, 0},
		{"half a block header behind others", "SKN1\x00" + rawBlock(false, "a") + rawBlock(false, "") + "\x18", "a", api.ErrShort, 0, 2},
		{"a raw block that is cut", "SKN1\x00" + rawBlock(false, "a") + "\x19\x00ab", "a", api.ErrShort, 0, 1},
		{"a run that is cut", "SKN1\x00" + rawBlock(false, "a") + "\x1b\x00", "a", api.ErrShort, 0, 1},
		{"an empty run that is cut", "SKN1\x00\x03\x00", "", api.ErrShort, 0, 0},
		{"a block of kind 2 that is cut", "SKN1\x00" + rawBlock(false, "a") + "\x4d\x00\x08", "a", api.ErrShort, 0, 1},
		{"many blocks", "SKN1\x00" + strings.Repeat(rawBlock(false, "a"), 300) + "\x06\x00", strings.Repeat("a", 300), api.ErrFormat, 0, 300},
	} {
		check(t, widest, s)
	}
}

func TestRawBlocksAndRunsOfEachLength(t *testing.T) {
	r := rand.New(rand.NewSource(8))
	for n := range api.MaxBlock + 1 {
		bytes := make([]byte, n)
		r.Read(bytes)
		text := string(bytes)
		if got, e := skein.Whole(widest, "SKN1\x00"+rawBlock(true, text)); got != text || e != api.OK {
			t.Errorf("P8, P11: a raw block of %d bytes: %d bytes, %d", n, len(got), e)
		}
		letter := little(n*7, 1)
		if got, e := skein.Whole(widest, "SKN1\x00"+runBlock(true, n, letter)); got != strings.Repeat(letter, n) || e != api.OK {
			t.Errorf("P8: a run of %d bytes: %q, %d", n, got, e)
		}
	}
}

func TestBlocksAboveTheGreatestLength(t *testing.T) {
	body := strings.Repeat("x", 8191)
	for n := api.MaxBlock + 1; n <= 8191; n++ {
		for kind := range 4 {
			text := "SKN1\x00" + rawBlock(false, "a") + blockHeader(n%2 == 0, kind, n)
			r := fresh(t, widest)
			feed(t, r, text)
			if p, e := r.Place(); p != (api.Place{Block: 1}) || e != api.ErrFormat {
				t.Errorf("P8: kind %d, %d bytes: %+v, %d", kind, n, p, e)
			}
			if got, e := skein.Whole(widest, text+body); got != "a" || e != api.ErrFormat {
				t.Errorf("P8: kind %d, %d bytes: %q, %d", kind, n, got, e)
			}
		}
	}
}

func TestRawBlockOfAllBytes(t *testing.T) {
	text := ""
	for b := range 256 {
		text += little(b, 1)
	}
	check(t, widest, stream{"all bytes", "SKN1\x08" + rawBlock(true, text) + sumOf(text), text, api.OK, 1, 0})
	for b := range 256 {
		if got, e := skein.Whole(widest, "SKN1\x00"+runBlock(true, 5, little(b, 1))); got != strings.Repeat(text[b:b+1], 5) || e != api.OK {
			t.Errorf("P8: a run of %d: %q, %d", b, got, e)
		}
	}
}

func TestSizes(t *testing.T) {
	two := rawBlock(false, "ab") + rawBlock(true, "c")
	for _, s := range []stream{
		{"the right size", "SKN1\x10\x03\x00\x00" + two, "abc", api.OK, 1, 0},
		{"a size that is one more", "SKN1\x10\x04\x00\x00" + two, "ab", api.ErrFormat, 0, 1},
		{"a size that is one less", "SKN1\x10\x02\x00\x00" + two, "ab", api.ErrFormat, 0, 1},
		{"a size that the first block is longer than", "SKN1\x10\x01\x00\x00" + two, "", api.ErrFormat, 0, 0},
		{"a size of 0", "SKN1\x10\x00\x00\x00" + two, "", api.ErrFormat, 0, 0},
		{"a size of 0, and no content", "SKN1\x10\x00\x00\x00" + rawBlock(false, "") + runBlock(true, 0, "x"), "", api.OK, 1, 0},
		{"a size of 1, and no content", "SKN1\x10\x01\x00\x00" + rawBlock(false, "") + runBlock(true, 0, "x"), "", api.ErrFormat, 0, 1},
		{"more in the second byte", "SKN1\x10\x03\x01\x00" + two, "ab", api.ErrFormat, 0, 1},
		{"more in the third byte", "SKN1\x10\x03\x00\x01" + two, "ab", api.ErrFormat, 0, 1},
		{"bytes in another order", "SKN1\x10\x00\x00\x03" + two, "ab", api.ErrFormat, 0, 1},
		{"a block in the middle that is too long", "SKN1\x10\x03\x00\x00" + rawBlock(false, "ab") + runBlock(false, 2, "x") + rawBlock(true, ""), "ab", api.ErrFormat, 0, 1},
		{"empty blocks at the size", "SKN1\x10\x02\x00\x00" + rawBlock(false, "ab") + runBlock(false, 0, "x") + rawBlock(true, ""), "ab", api.OK, 1, 0},
		{"an empty last block ahead of the size", "SKN1\x10\x03\x00\x00" + rawBlock(false, "ab") + rawBlock(true, ""), "ab", api.ErrFormat, 0, 1},
		{"a stream that is cut ahead of the size", "SKN1\x10\x03\x00\x00" + rawBlock(false, "ab"), "ab", api.ErrShort, 0, 1},
		{"a stream that is cut at the size", "SKN1\x10\x02\x00\x00" + rawBlock(false, "ab"), "ab", api.ErrShort, 0, 1},
		{"a wrong size ahead of a wrong sum", "SKN1\x18\x04\x00\x00" + two + "\x00\x00\x00\x00", "ab", api.ErrFormat, 0, 1},
		{"each frame's size by itself", "SKN1\x10\x03\x00\x00" + two + "SKN1\x00" + two + "SKN1\x10\x03\x00\x00" + two, "abcabcabc", api.OK, 3, 0},
		{"the second frame's size", "SKN1\x10\x03\x00\x00" + two + "SKN1\x10\x06\x00\x00" + two, "abcab", api.ErrFormat, 1, 1},
		{"the size of a frame with dictionary", "SKN1\x30\x07\x0a\x00\x00" + two, "ab", api.ErrFormat, 0, 1},
	} {
		check(t, api.Config{Limit: 64, Dicts: dicts(7)}, s)
	}
}

func TestGreatSizes(t *testing.T) {
	for _, n := range []int{256, 1024, 0x010203, 0x030201, 0xffffff} {
		rest := n % api.MaxBlock
		text := strings.Repeat(runBlock(false, api.MaxBlock, "x"), n/api.MaxBlock) + runBlock(true, rest, "x")
		if got, e := skein.Whole(widest, "SKN1\x10"+little(n, 3)+text); e != api.OK || len(got) != n {
			t.Errorf("P7: a size of %d: %d bytes, %d", n, len(got), e)
		}
		for _, told := range []int{n - 1, (n + 1) % (1 << 24), n ^ 0x010000, n ^ 0x0100} {
			if _, e := skein.Whole(widest, "SKN1\x10"+little(told, 3)+text); e != api.ErrFormat {
				t.Errorf("P7: a size of %d, and %d told: %d", n, told, e)
			}
		}
	}
}

func TestSums(t *testing.T) {
	two := rawBlock(false, "ab") + rawBlock(true, "c")
	for _, s := range []stream{
		{"example 5", "SKN1\x08\x23\x00x\x2f\xed\xe6\x75", "xxxx", api.OK, 1, 0},
		{"the right sum", "SKN1\x08" + two + "\xff\x53\xd1\x32", "abc", api.OK, 1, 0},
		{"the sum of nothing", "SKN1\x08\x01\x00\x05\x5d\xcc\x02", "", api.OK, 1, 0},
		{"the highest byte first", "SKN1\x08" + two + "\x32\xd1\x53\xff", "abc", api.ErrSum, 0, 2},
		{"another sum", "SKN1\x08" + two + sumOf("abd"), "abc", api.ErrSum, 0, 2},
		{"the last block's sum", "SKN1\x08" + two + sumOf("c"), "abc", api.ErrSum, 0, 2},
		{"a wrong sum behind one block", "SKN1\x08" + rawBlock(true, "abc") + sumOf("ab"), "abc", api.ErrSum, 0, 1},
		{"a wrong sum, and a frame behind it", "SKN1\x08" + two + sumOf("") + "SKN1\x00" + two, "abc", api.ErrSum, 0, 2},
		{"no sum", "SKN1\x08" + two, "abc", api.ErrShort, 0, 2},
		{"a sum that is cut", "SKN1\x08" + two + sumOf("abc")[:3], "abc", api.ErrShort, 0, 2},
		{"a wrong sum that is cut", "SKN1\x08" + two + "\x00\x00\x00", "abc", api.ErrShort, 0, 2},
		{"a sum that was not told of", "SKN1\x00" + two + sumOf("abc"), "abc", api.ErrFormat, 1, 0},
		{"each frame's sum by itself", "SKN1\x08" + two + sumOf("abc") + "SKN1\x00" + two + "SKN1\x08" + two + sumOf("abc"), "abcabcabc", api.OK, 3, 0},
		{"the sum of both frames", "SKN1\x08" + two + sumOf("abc") + "SKN1\x08" + two + sumOf("abcabc"), "abcabc", api.ErrSum, 1, 2},
		{"skipped bytes do not count", "SKIP\x02\x00\x00xySKN1\x08" + two + sumOf("abc"), "abc", api.OK, 2, 0},
		{"nor the dictionary's", "SKN1\x28\x07" + two + sumOf("abc"), "abc", api.OK, 1, 0},
		{"size and sum", "SKN1\x18\x03\x00\x00" + two + sumOf("abc"), "abc", api.OK, 1, 0},
	} {
		check(t, api.Config{Limit: 64, Dicts: dicts(7)}, s)
	}
}

func TestWrongBitsOfSums(t *testing.T) {
	text := strings.Repeat("some text, ", 20)
	ahead := "SKN1\x08" + rawBlock(false, text[:100]) + rawBlock(false, text[100:101]) + rawBlock(true, text[101:])
	if got, e := skein.Whole(widest, ahead+sumOf(text)); got != text || e != api.OK {
		t.Fatalf("P7: the right sum: %q, %d", got, e)
	}
	for bit := range 32 {
		wrong := little(int(sums.Sum(text)^1<<bit), 4)
		check(t, widest, stream{"a wrong bit", ahead + wrong, text, api.ErrSum, 0, 3})
	}
}
