package skein_test

import (
	"strings"
	"testing"

	"skein/api"
	"skein/skein"
)

// rawBlocks cuts a text into raw blocks.
func rawBlocks(text string) string {
	blocks := ""
	for ; len(text) > api.MaxBlock; text = text[api.MaxBlock:] {
		blocks += rawBlock(false, text[:api.MaxBlock])
	}
	return blocks + rawBlock(false, text)
}

// reach is a packed block of some literals, all of them ahead of a match that lies so far back, the last block.
func reach(literals string, offset, match int) string {
	length, _ := lengthSymbol(len(literals))
	value, _ := valueSymbol(offset + 3)
	symbol, _ := lengthSymbol(match - 3)
	return packedBlock(true, plainLiterals(literals)+singles(length, value, symbol).with(sequence{len(literals), offset + 3, match}))
}

func TestOffsetsAtTheBoundOfTheWindow(t *testing.T) {
	ahead, _ := plentiful()
	blocks := rawBlocks(ahead)
	for w, window := range []int{64, 128, 256, 512, 1024, 2048, 4096} {
		head := "SKN1" + little(w, 1) + blocks
		for _, literals := range []string{"", "x", "xyz"} {
			for _, offset := range []int{window - 1, window} {
				want := back(ahead+literals, offset, 5)
				if got, e := skein.Whole(widest, head+reach(literals, offset, 5)); got != want || e != api.OK {
					t.Errorf("P10: window %d, offset %d: %q, %d, want %q", window, offset, got[min(len(got), len(ahead)):], e, want[len(ahead):])
				}
			}
			for _, offset := range []int{window + 1, window + 2, 2 * window, 8188} {
				offset = min(offset, 8188)
				if got, e := skein.Whole(widest, head+reach(literals, offset, 5)); got != ahead || e != api.ErrFormat {
					t.Errorf("P10: window %d, offset %d: %q, %d", window, offset, got[min(len(got), len(ahead)):], e)
				}
			}
		}
	}
	// No value tells of an offset above 8188, so that all are within the greatest window.
	want := back(ahead, 8188, 200)
	if got, e := skein.Whole(widest, "SKN1\x07"+blocks+reach("", 8188, 200)); got != want || e != api.OK {
		t.Errorf("P10: the greatest offset: %q, %d", got[min(len(got), len(ahead)):], e)
	}
}

// inMatches is a packed block whose second match lies so far back, in the first one.
func inMatches(offset int) string {
	chosen := tables{single(1), counted(5, 16, 0, 0, 0, 0, 0, 16), single(13)}
	return plainLiterals("xy") + chosen.with(sequence{1, 1, 100}, sequence{1, offset + 3, 100})
}

// The window is that of the frame, not the limit, and it is also kept where the content is shorter.
func TestWindowsOfFrames(t *testing.T) {
	seventy := alphabet + "01234567"
	for _, s := range []stream{
		{"64 back", "SKN1\x00" + rawBlock(false, seventy) + reach("", 64, 3), back(seventy, 64, 3), api.OK, 1, 0},
		{"65 back", "SKN1\x00" + rawBlock(false, seventy) + reach("", 65, 3), seventy, api.ErrFormat, 0, 1},
		{"65 back, a window of 128", "SKN1\x01" + rawBlock(false, seventy) + reach("", 65, 3), back(seventy, 65, 3), api.OK, 1, 0},
		{"all back, a window of 128", "SKN1\x01" + rawBlock(false, seventy) + reach("", 70, 3), back(seventy, 70, 3), api.OK, 1, 0},
		{"one more, a window of 128", "SKN1\x01" + rawBlock(false, seventy) + reach("", 71, 3), seventy, api.ErrFormat, 0, 1},
		{"65 back, in this block's literals", "SKN1\x00" + reach(seventy, 65, 3), "", api.ErrFormat, 0, 0},
		{"64 back, in this block's literals", "SKN1\x00" + reach(seventy, 64, 3), back(seventy, 64, 3), api.OK, 1, 0},
		{"64 back, in this block's matches", "SKN1\x00" + packedBlock(true, inMatches(64)), back(strings.Repeat("x", 101)+"y", 64, 100), api.OK, 1, 0},
		{"65 back, in this block's matches", "SKN1\x00" + packedBlock(true, inMatches(65)), "", api.ErrFormat, 0, 0},
		{"a window of 64 behind one of 128", "SKN1\x01" + rawBlock(false, seventy) + reach("", 65, 3) + "SKN1\x00" + rawBlock(false, seventy) + reach("", 65, 3), back(seventy, 65, 3) + seventy, api.ErrFormat, 1, 1},
		{"a window of 128 behind one of 64", "SKN1\x00" + rawBlock(false, seventy) + reach("", 64, 3) + "SKN1\x01" + rawBlock(false, seventy) + reach("", 65, 3), back(seventy, 64, 3) + back(seventy, 65, 3), api.OK, 2, 0},
	} {
		check(t, widest, s)
	}
}

// Content of more than a window, in many blocks of all lengths: what is still in the window is found.
func TestWindowThatHasMovedOn(t *testing.T) {
	ahead, _ := plentiful()
	for _, size := range []int{1, 3, 63, 64, 65, 127, 128, 129, 1000} {
		blocks, all := "", ""
		for n := 0; n+size <= 3000; n += size {
			blocks += rawBlock(false, ahead[n:n+size])
			all += ahead[n : n+size]
			if n%7 == 0 && n > 128 {
				blocks += packedBlock(false, plainLiterals("z")+singles(1, 6, 0).with(sequence{1, 64 + 3, 3}))
				all = back(all+"z", 64, 3)
			}
		}
		for _, offset := range []int{1, 2, 63, 64} {
			if got, e := skein.Whole(widest, "SKN1\x00"+blocks+reach("", offset, 40)); got != back(all, offset, 40) || e != api.OK {
				t.Errorf("P10: blocks of %d, %d back: %q, %d", size, offset, got[min(len(got), len(all)):], e)
			}
		}
		if got, e := skein.Whole(widest, "SKN1\x00"+blocks+reach("", 65, 40)); got != all || e != api.ErrFormat {
			t.Errorf("P10: blocks of %d, 65 back: %q, %d", size, got[min(len(got), len(all)):], e)
		}
	}
}

func TestMatchesThatReachIntoThemselves(t *testing.T) {
	for offset := 1; offset <= 12; offset++ {
		for match := 3; match < 40; match++ {
			want := back(alphabet+"xy", offset, match)
			check(t, widest, stream{"into itself", "SKN1\x00" + rawBlock(false, alphabet) + reach("xy", offset, match), want, api.OK, 1, 0})
		}
	}
}

func TestMatchesInEarlierBlocks(t *testing.T) {
	blocks := map[string]string{
		rawBlock(false, "0123456789"):                          "0123456789",
		runBlock(false, 10, "x"):                               "xxxxxxxxxx",
		packedBlock(false, plainLiterals("0123456789")+"\x00"): "0123456789",
		packedBlock(false, plainLiterals("ABCDEFG")+singles(2, 0, 0).with(sequence{2, 1, 3})): "ABBBBCDEFG",
	}
	for first, one := range blocks {
		for second, two := range blocks {
			all := one + two
			for offset := 1; offset <= len(all); offset++ {
				want := back(all, offset, 15)
				check(t, widest, stream{"an earlier block", "SKN1\x00" + first + second + reach("", offset, 15), want, api.OK, 1, 0})
			}
			check(t, widest, stream{"ahead of the first block", "SKN1\x00" + first + second + reach("", len(all)+1, 15), all, api.ErrFormat, 0, 2})
		}
	}
	ten := "SKN1\x00" + rawBlock(false, "0123456789")
	for _, s := range []stream{
		{"nothing at all", "SKN1\x00" + reach("", 1, 3), "", api.ErrFormat, 0, 0},
		{"the first byte of the block", "SKN1\x00" + reach("abc", 3, 3), "abcabc", api.OK, 1, 0},
		{"ahead of the first byte", "SKN1\x00" + reach("abc", 4, 3), "", api.ErrFormat, 0, 0},
		{"literals that follow only", "SKN1\x00" + packedBlock(true, plainLiterals("abcdef")+singles(2, 2, 0).with(sequence{2, 6, 3})), "", api.ErrFormat, 0, 0},
		{"another frame's content", ten + rawBlock(true, "") + "SKN1\x00" + reach("abc", 4, 3), "0123456789", api.ErrFormat, 1, 0},
		{"a skipped frame's bytes", "SKIP\x03\x00\x00xyz" + "SKN1\x00" + reach("abc", 4, 3), "", api.ErrFormat, 1, 0},
	} {
		check(t, widest, s)
	}
}

// twoDicts are dictionaries, a short one and one of the greatest length.
func twoDicts() api.Config {
	ahead, _ := plentiful()
	return api.Config{Limit: 8192, Dicts: []api.Dict{{ID: 3, Content: "dictionary"}, {ID: 200, Content: ahead[:256]}}}
}

func TestDictionaries(t *testing.T) {
	long := twoDicts().Dicts[1].Content
	for _, s := range []stream{
		{"the first byte", "SKN1\x20\x03" + reach("", 10, 3), "dic", api.OK, 1, 0},
		{"the last byte", "SKN1\x20\x03" + reach("", 1, 4), "yyyy", api.OK, 1, 0},
		{"ahead of the first byte", "SKN1\x20\x03" + reach("", 11, 3), "", api.ErrFormat, 0, 0},
		{"the first byte, behind literals", "SKN1\x20\x03" + reach("ab", 12, 4), "abdict", api.OK, 1, 0},
		{"ahead of the first byte, behind literals", "SKN1\x20\x03" + reach("ab", 13, 4), "", api.ErrFormat, 0, 0},
		{"on into the content", "SKN1\x20\x03" + reach("ab", 4, 9), "abryabryabr", api.OK, 1, 0},
		{"the last offsets, at first", "SKN1\x20\x03" + packedBlock(true, plainLiterals("")+singles(0, 1, 1).with(sequence{0, 2, 4})), "ctio", api.OK, 1, 0},
		{"the first byte, from a later block", "SKN1\x20\x03" + rawBlock(false, "0123") + reach("ab", 16, 4), "0123abdict", api.OK, 1, 0},
		{"ahead of the first byte, from a later block", "SKN1\x20\x03" + rawBlock(false, "0123") + reach("ab", 17, 4), "0123", api.ErrFormat, 0, 1},
		{"without the dictionary", "SKN1\x00" + reach("ab", 3, 3), "", api.ErrFormat, 0, 0},
		{"without the dictionary, behind a frame that had it", "SKN1\x20\x03" + reach("ab", 12, 4) + "SKN1\x00" + reach("ab", 3, 3), "abdict", api.ErrFormat, 1, 0},
		{"with the dictionary behind a frame without", "SKN1\x00" + rawBlock(true, "x") + "SKN1\x20\x03" + reach("ab", 12, 4), "xabdict", api.OK, 2, 0},
		{"the same again", "SKN1\x20\x03" + reach("ab", 12, 4) + "SKN1\x20\x03" + reach("ab", 12, 4), "abdictabdict", api.OK, 2, 0},
		{"the same again, ahead of its first byte", "SKN1\x20\x03" + reach("ab", 12, 4) + "SKN1\x20\x03" + reach("ab", 13, 4), "abdict", api.ErrFormat, 1, 0},
		{"one behind the other", "SKN1\x20\x03" + reach("ab", 12, 4) + "SKN1\x22\xc8" + reach("", 256, 4), "abdict" + long[:4], api.OK, 2, 0},
		{"the greatest dictionary, its first byte", "SKN1\x23\xc8" + reach("", 256, 300), back(long, 256, 300)[256:], api.OK, 1, 0},
		{"the greatest dictionary, ahead of it", "SKN1\x23\xc8" + reach("", 257, 3), "", api.ErrFormat, 0, 0},
		{"at the window's bound", "SKN1\x20\xc8" + reach("", 64, 3), back(long, 64, 3)[256:], api.OK, 1, 0},
		{"above the window", "SKN1\x20\xc8" + reach("", 65, 3), "", api.ErrFormat, 0, 0},
		{"at the window's bound, behind literals", "SKN1\x20\xc8" + reach("ab", 64, 3), back(long+"ab", 64, 3)[256:], api.OK, 1, 0},
		{"above the window, behind literals", "SKN1\x20\xc8" + reach("ab", 65, 3), "", api.ErrFormat, 0, 0},
		{"at the window's bound, behind content", "SKN1\x21\xc8" + rawBlock(false, alphabet) + reach("", 128, 3), alphabet + back(long+alphabet, 128, 3)[256+len(alphabet):], api.OK, 1, 0},
		{"above the window, behind content", "SKN1\x21\xc8" + rawBlock(false, alphabet) + reach("", 129, 3), alphabet, api.ErrFormat, 0, 1},
		{"no content, no dictionary's", "SKN1\x38\x03\x00\x00\x00" + rawBlock(true, "") + sumOf(""), "", api.OK, 1, 0},
		{"the sum is without the dictionary", "SKN1\x38\x03\x06\x00\x00" + reach("ab", 12, 4) + sumOf("abdict"), "abdict", api.OK, 1, 0},
		{"the sum with the dictionary", "SKN1\x28\x03" + reach("ab", 12, 4) + sumOf("dictionaryabdict"), "abdict", api.ErrSum, 0, 1},
		{"the size with the dictionary", "SKN1\x30\x03\x10\x00\x00" + reach("ab", 12, 4), "", api.ErrFormat, 0, 0},
	} {
		check(t, twoDicts(), s)
	}
	ahead, _ := plentiful()
	for _, n := range []int{1, 500, 1024, 5000, 7932} {
		all := long + ahead[1000:1000+n]
		head := "SKN1\x27\xc8" + rawBlocks(ahead[1000:1000+n])
		if got, e := skein.Whole(twoDicts(), head+reach("", n+256, 9)); got != back(all, n+256, 9)[256:] || e != api.OK {
			t.Errorf("P10: the dictionary's first byte, %d back: %d", n+256, e)
		}
		if n == 7932 {
			continue // no offset is greater
		}
		if got, e := skein.Whole(twoDicts(), head+reach("", n+257, 9)); got != all[256:] || e != api.ErrFormat {
			t.Errorf("P10: ahead of the dictionary, %d back: %d", n+257, e)
		}
	}
}

func TestDictionariesAreNotKept(t *testing.T) {
	room := []byte("dictionary")
	list := []api.Dict{{ID: 3, Content: lent(room)}}
	r := fresh(t, api.Config{Limit: 64, Dicts: list})
	if string(room) != "dictionary" {
		t.Errorf("P2: New wrote into a dictionary: %q", room)
	}
	clear(room)
	list[0] = api.Dict{ID: 4, Content: "other"}
	feed(t, r, "SKN1\x20\x03"+reach("", 10, 10))
	feed(t, r, "SKN1\x20\x03"+reach("ab", 12, 4))
	wantRead(t, r, 99, "dictionaryabdict", api.OK)
}

func TestMoreLiteralsThanThereAre(t *testing.T) {
	for n := range 30 {
		literals := alphabet[:n]
		for length := 1; length < 40; length++ {
			symbol, _ := lengthSymbol(length)
			bytes := plainLiterals(literals) + singles(symbol, 0, 0).with(sequence{length, 1, 3})
			if length > n {
				wantRefused(t, "more literals than there are", bytes)
				continue
			}
			wantContent(t, "as many literals", bytes, back(literals[:length], 1, 3)+literals[length:])
		}
	}
	chosen := tables{counted(5, 8, 8, 16), single(0), single(0)}
	wantContent(t, "two lengths", plainLiterals("abc")+chosen.with(sequence{1, 1, 3}, sequence{2, 1, 3}), "aaaabcccc")
	wantRefused(t, "two lengths, one more", plainLiterals("abc")+chosen.with(sequence{2, 1, 3}, sequence{2, 1, 3}))
	wantRefused(t, "one of no literals", plainLiterals("")+chosen.with(sequence{1, 1, 3}))
	wantRefused(t, "a repeated one, one more", repeatedLiterals(3, "x")+singles(4, 0, 0).with(sequence{4, 1, 3}))
	wantRefused(t, "a coded one, one more", freshLiterals([]int{1}, "\x00\x01\x00")+singles(4, 0, 0).with(sequence{4, 1, 3}))
	wantRefused(t, "the greatest length", repeatedLiterals(516, "x")+singles(15, 0, 0).with(sequence{517, 1, 3}))
	wantContent(t, "the greatest length", repeatedLiterals(517, "x")+singles(15, 0, 0).with(sequence{517, 1, 3}), strings.Repeat("x", 520))
}

func TestContentOfTheGreatestLength(t *testing.T) {
	try := func(what, bytes string, length int) {
		t.Helper()
		if length > api.MaxBlock {
			wantRefused(t, what, bytes)
			return
		}
		wantContent(t, what, bytes, strings.Repeat("x", length))
	}
	for n := 500; n <= 510; n++ {
		try("literals and a match", repeatedLiterals(n, "x")+singles(2, 0, 15).with(sequence{2, 1, 518}), n+518)
	}
	for n := 1015; n <= 1024; n++ {
		try("a match ahead of literals", repeatedLiterals(n, "x")+singles(1, 0, 0).with(sequence{1, 1, 3}), n+3)
	}
	for match := 505; match <= 515; match++ {
		try("matches", repeatedLiterals(4, "x")+singles(2, 0, 15).with(sequence{2, 1, match}, sequence{2, 1, 510}), 4+match+510)
		try("matches, the last one too long", repeatedLiterals(4, "x")+singles(2, 0, 15).with(sequence{2, 1, 510}, sequence{2, 1, match}), 4+match+510)
	}
	for n := 255; n <= 262; n++ {
		try("the most sequences", repeatedLiterals(n, "x")+tables{single(1), single(0), single(0)}.with(repeated(255, sequence{1, 1, 3})...), n+765)
	}
	for n := 1; n <= 8; n++ {
		list := append([]sequence{{1, 1, 4}}, repeated(254, sequence{0, 1, 4})...)
		try("the most sequences, almost without literals", repeatedLiterals(n, "x")+tables{counted(5, 31, 1), single(0), single(1)}.with(list...), n+1020)
	}
	wantRefused(t, "the greatest content that can be told of", repeatedLiterals(1024, "x")+singles(1, 0, 15).with(repeated(255, sequence{1, 1, 520})...))
}

func repeated(n int, s sequence) []sequence {
	var list []sequence
	for range n {
		list = append(list, s)
	}
	return list
}

func TestSizesAndSumsOfSequences(t *testing.T) {
	first := packedBlock(false, plainLiterals("abc")+allAgreed().with(sequence{2, 1, 4}))
	second := packedBlock(true, plainLiterals("d")+allAgreed().again().with(sequence{1, 5, 3}))
	one, all := "abbbbbc", "abbbbbc"+"dcdc"
	for _, s := range []stream{
		{"the right size and sum", "SKN1\x18\x0b\x00\x00" + first + second + sumOf(all), all, api.OK, 1, 0},
		{"the right size", "SKN1\x10\x0b\x00\x00" + first + second, all, api.OK, 1, 0},
		{"the right sum", "SKN1\x08" + first + second + sumOf(all), all, api.OK, 1, 0},
		{"a wrong sum", "SKN1\x18\x0b\x00\x00" + first + second + sumOf(all+"x"), all, api.ErrSum, 0, 2},
		{"the sum of the literals", "SKN1\x08" + first + second + sumOf("abcd"), all, api.ErrSum, 0, 2},
		{"a size that is one more", "SKN1\x10\x0c\x00\x00" + first + second, one, api.ErrFormat, 0, 1},
		{"a size that is one less", "SKN1\x10\x0a\x00\x00" + first + second, one, api.ErrFormat, 0, 1},
		{"a size that the first block is longer than", "SKN1\x10\x06\x00\x00" + first + second, "", api.ErrFormat, 0, 0},
		{"the size of the first block", "SKN1\x10\x07\x00\x00" + first + second, one, api.ErrFormat, 0, 1},
		{"the size of the literals", "SKN1\x10\x04\x00\x00" + first + second, "", api.ErrFormat, 0, 0},
		{"no sum", "SKN1\x08" + first + second, all, api.ErrShort, 0, 2},
	} {
		check(t, widest, s)
	}
}

// Where a wrong block stops a reader, and that nothing of it comes out, though its beginning is right.
func TestPlaceOfWrongSequences(t *testing.T) {
	right := packedBlock(false, plainLiterals("abc")+allAgreed().with(sequence{2, 1, 4}))
	wrong := packedBlock(false, plainLiterals("xyz")+allAgreed().again().with(sequence{1, 1, 9}, sequence{1, 200, 3}))
	frame := "SKN1\x00" + right + rawBlock(true, "")
	for blocks := range 4 {
		for frames := range 3 {
			ahead := strings.Repeat(frame, frames) + "SKN1\x00" + strings.Repeat(right, blocks+1)
			want := strings.Repeat("abbbbbc", frames+blocks+1)
			for _, behind := range []string{"", right, frame, rawBlock(true, "") + frame, "wrong"} {
				check(t, widest, stream{"a wrong block", ahead + wrong + behind, want, api.ErrFormat, frames, blocks + 1})
			}
			check(t, widest, stream{"a wrong block that is cut", ahead + wrong[:len(wrong)-1], want, api.ErrShort, frames, blocks + 1})
		}
	}
	r := fresh(t, widest)
	text := "SKN1\x00" + right + wrong
	for i := range len(text) {
		wantPlace(t, r, 0, 0, api.Wait)
		feed(t, r, text[i:i+1])
	}
	wantPlace(t, r, 0, 1, api.ErrFormat)
	wantRead(t, r, 99, "abbbbbc", api.OK)
	wantRead(t, r, 99, "", api.ErrFormat)
	feed(t, r, right)
	wantRead(t, r, 99, "", api.ErrFormat)
}

func TestSequenceBitsThatAreLeft(t *testing.T) {
	chosen := singles(1, 3, 8)
	for n := 1; n < 18; n++ {
		literals := strings.Repeat("x", n)
		list := repeated(n, sequence{1, 9, 12})
		all := chosen.coded(list)
		bytes := plainLiterals(literals) + chosen.head(n)
		ahead := "SKN1\x00" + rawBlock(false, alphabet)
		for left := range 20 {
			for bit := -1; bit < left; bit++ {
				rest := []byte(strings.Repeat("0", left))
				if bit >= 0 {
					rest[bit] = '1'
				}
				bits := all + string(rest)
				if len(bits)%8 != 0 {
					continue
				}
				text := ahead + packedBlock(true, bytes+bitBytes(bits))
				if left < 8 && bit < 0 {
					wantRight(t, "noughts are left", widest, text)
					continue
				}
				check(t, widest, stream{"bits are left", text, alphabet, api.ErrFormat, 0, 1})
			}
		}
		short := ahead + packedBlock(true, bytes+bitBytes(all[:(len(all)-1)/8*8]))
		check(t, widest, stream{"bits are missing", short, alphabet, api.ErrFormat, 0, 1})
		check(t, widest, stream{"all bits are missing", ahead + packedBlock(true, bytes), alphabet, api.ErrFormat, 0, 1})
	}
	wantRefused(t, "bits behind sequences that have none", plainLiterals("x")+singles(1, 0, 0).head(1)+"\x00")
	wantRefused(t, "no bits for the states", plainLiterals("x")+allAgreed().head(1))
	wantRefused(t, "a byte of bits for the states", plainLiterals("x")+allAgreed().head(1)+"\x00")
}
