package skein_test

import (
	"slices"
	"strings"
	"testing"

	"skein/api"
	"skein/skein"
)

// frameOf puts packed blocks, each of some literals and no sequences, together to a frame.
func frameOf(literals ...string) string {
	text := "SKN1\x00"
	for i, l := range literals {
		text += packedBlock(i == len(literals)-1, l+"\x00")
	}
	return text
}

// wantRefused holds that a packed block of some bytes stops a reader behind a block of content, and nothing of it
// comes out.
func wantRefused(t *testing.T, what, bytes string) {
	t.Helper()
	ahead := "SKN1\x00" + rawBlock(false, "ab")
	check(t, widest, stream{what, ahead + packedBlock(true, bytes), "ab", api.ErrFormat, 0, 1})
	check(t, widest, stream{what, ahead + packedBlock(false, bytes) + rawBlock(true, "c"), "ab", api.ErrFormat, 0, 1})
}

// wantContent holds that a packed block of some bytes has a content.
func wantContent(t *testing.T, what, bytes, content string) {
	t.Helper()
	text := "SKN1\x08" + rawBlock(false, "ab") + packedBlock(true, bytes) + sumOf("ab"+content)
	check(t, widest, stream{what, text, "ab" + content, api.OK, 1, 0})
}

func TestLiterals(t *testing.T) {
	for _, c := range []struct{ what, literals, want string }{
		{"plain ones", "\x0c\x00abc", "abc"},
		{"no plain ones", "\x00\x00", ""},
		{"a plain one", "\x04\x00\x00", "\x00"},
		{"a repeated one", "\x11\x00x", "xxxx"},
		{"a repeated one, once", "\x05\x00\xff", "\xff"},
		{"a repeated one, never", "\x01\x00x", ""},
		{"codes of a bit", "\x22\x00\x01\x01\x01\x00\x53", "\x00\x01\x00\x01\x00\x00\x01\x01"},
		{"codes of a bit and of two, and bits that are left", "\x12\x00\x02\x12\x01\x00\x8c", "\x00\x01\x02\x00"},
		{"codes of two bits, and half a byte of weights", "\x12\x00\x03\x11\x01\x01\x00\x1b", "\x00\x01\x02\x03"},
		{"codes of which none is used", "\x02\x00\x01\x01\x00\x00", ""},
		{"the shortest code of weights of the greatest", "\x0a\x00\x01\x08\x01\x00\x40", "\x00\x01"},
		{"codes of all lengths", "\x26\x00\x08\x78\x56\x34\x12\x05\x00\x00\x02\x08\x44\xb8", "\x07\x06\x05\x04\x03\x02\x01\x00\x00"},
		{"a value above others without codes", "\x0a\x00\x03\x00\x01\x01\x00\x40", "\x02\x03"},
	} {
		wantContent(t, c.what, c.literals+"\x00", c.want)
		check(t, widest, stream{c.what, frameOf(c.literals), c.want, api.OK, 1, 0})
	}
}

func TestLiteralsAreWrittenHighestBitFirst(t *testing.T) {
	// Each byte of bits by itself: the values 0 and 1 are its bits.
	for b := range 256 {
		want := ""
		for worth := 128; worth > 0; worth /= 2 {
			want += little(b/worth%2, 1)
		}
		wantContent(t, "a byte of bits", "\x22\x00\x01\x01\x01\x00"+little(b, 1)+"\x00", want)
	}
}

func TestLiteralsOfTheGreatestLength(t *testing.T) {
	fits := strings.Repeat("abcdefg", 200)[:api.MaxBlock-3]
	wantContent(t, "plain literals that fill a block", plainLiterals(fits)+"\x00", fits)
	wantContent(t, "a repeated literal", "\x01\x10x\x00", strings.Repeat("x", 1024))
	wantRefused(t, "a repeated literal, one more", "\x05\x10x\x00")
	one := []int{1}
	most := strings.Repeat("\x00\x01\x01", 400)[:api.MaxBlock]
	wantContent(t, "coded literals", freshLiterals(one, most)+"\x00", most)
	wantRefused(t, "coded literals, one more", freshLiterals(one, most+"\x00")+"\x00")
	check(t, widest, stream{"literals of the last codes", frameOf(freshLiterals(one, most), lastLiterals(one, most)), most + most, api.OK, 1, 0})
	check(t, widest, stream{"literals of the last codes, one more", frameOf(freshLiterals(one, most), lastLiterals(one, most+"\x01")), most, api.ErrFormat, 0, 1})
	for n := api.MaxBlock + 1; n < 2048; n++ {
		for kind := range 3 {
			bytes := literalsHead(kind, n) + "\x01\x01" + little((n+7)/8, 2) + strings.Repeat("\x00", (n+7)/8) + "\x00"
			if got, e := skein.Whole(widest, "SKN1\x00"+packedBlock(true, bytes)); got != "" || e != api.ErrFormat {
				t.Errorf("P9: %d literals of kind %d: %d bytes, %d", n, kind, len(got), e)
			}
		}
	}
}

func TestLiteralsOfEachLength(t *testing.T) {
	weights := []int{3, 1, 1, 2}
	for n := range 300 {
		text := strings.Repeat("\x03\x00\x01\x02\x00\x04\x04", 50)[:n]
		for _, l := range []string{plainLiterals(text), freshLiterals(weights, text)} {
			if got, e := skein.Whole(widest, frameOf(l)); got != text || e != api.OK {
				t.Errorf("P9: %d literals, %q: %q, %d", n, l, got, e)
			}
		}
		if got, e := skein.Whole(widest, frameOf(repeatedLiterals(n, "x"))); got != strings.Repeat("x", n) || e != api.OK {
			t.Errorf("P9: a literal %d times: %q, %d", n, got, e)
		}
	}
}

func TestBitsOfTheHeadThatMustBe0(t *testing.T) {
	for _, literals := range []string{plainLiterals("abc"), repeatedLiterals(4, "x"), freshLiterals([]int{1}, "\x01\x00")} {
		for bit := 13; bit < 16; bit++ {
			head := value(literals[:2]) + 1<<bit
			wantRefused(t, "a bit of the head", little(head, 2)+literals[2:]+"\x00")
		}
	}
	fresh := freshLiterals([]int{1}, "\x01")
	for bit := 13; bit < 16; bit++ {
		last := little(3+4+1<<bit, 2) + "\x01\x00\x80"
		check(t, widest, stream{"a bit of the head, last codes", frameOf(fresh, last), "\x01", api.ErrFormat, 0, 1})
	}
}

func TestCodesOfEarlierBlocks(t *testing.T) {
	a, b := []int{1}, []int{2, 0, 0, 1}
	freshA, lastA := freshLiterals(a, "\x01\x00"), lastLiterals(a, "\x00\x01\x01")
	freshB, lastB := freshLiterals(b, "\x04\x03"), lastLiterals(b, "\x00\x04\x00")
	between := rawBlock(false, "c") + runBlock(false, 2, "d") + packedBlock(false, plainLiterals("e")+"\x00") + packedBlock(false, repeatedLiterals(2, "f")+"\x00")
	ahead := "SKN1\x00" + packedBlock(false, freshA+"\x00")
	skip := "SKIP\x01\x00\x00x"
	for _, s := range []stream{
		{"the next block", frameOf(freshA, lastA), "\x01\x00\x00\x01\x01", api.OK, 1, 0},
		{"again and again", frameOf(freshA, lastA, lastA, lastA), "\x01\x00" + strings.Repeat("\x00\x01\x01", 3), api.OK, 1, 0},
		{"behind blocks of other kinds", ahead + between + packedBlock(true, lastA+"\x00"), "\x01\x00cddeff\x00\x01\x01", api.OK, 1, 0},
		{"behind other codes", frameOf(freshA, freshB, lastB), "\x01\x00\x04\x03\x00\x04\x00", api.OK, 1, 0},
		{"codes in turn", frameOf(freshB, lastB, freshA, lastA, lastA, freshB, lastB), "\x04\x03\x00\x04\x00\x01\x00\x00\x01\x01\x00\x01\x01\x04\x03\x00\x04\x00", api.OK, 1, 0},
		{"behind codes of which none was used", frameOf(freshLiterals(b, ""), lastB), "\x00\x04\x00", api.OK, 1, 0},
		{"no literals of the last codes", frameOf(freshA, lastLiterals(a, "")), "\x01\x00", api.OK, 1, 0},
		{"no literals of the last codes, and then some", frameOf(freshA, lastLiterals(a, ""), lastA), "\x01\x00\x00\x01\x01", api.OK, 1, 0},
		{"no codes yet", frameOf(lastA), "", api.ErrFormat, 0, 0},
		{"no codes yet, and no literals", frameOf(lastLiterals(a, "")), "", api.ErrFormat, 0, 0},
		{"no codes yet behind blocks of other kinds", "SKN1\x00" + between + packedBlock(true, lastA+"\x00"), "cddeff", api.ErrFormat, 0, 4},
		{"codes in a later block only", frameOf(lastA, freshA), "", api.ErrFormat, 0, 0},
		{"another frame", frameOf(freshA) + frameOf(lastA), "\x01\x00", api.ErrFormat, 1, 0},
		{"another frame, behind a block", frameOf(freshA, lastA) + frameOf(plainLiterals("g"), lastA), "\x01\x00\x00\x01\x01g", api.ErrFormat, 1, 1},
		{"another frame, behind a skipped one", frameOf(freshA) + skip + frameOf(lastA), "\x01\x00", api.ErrFormat, 2, 0},
		{"another frame behind one without packed blocks", frameOf(freshA) + "SKN1\x00" + rawBlock(true, "h") + frameOf(lastA), "\x01\x00h", api.ErrFormat, 2, 0},
		{"another frame with its own", frameOf(freshA) + frameOf(freshB, lastB), "\x01\x00\x04\x03\x00\x04\x00", api.OK, 2, 0},
	} {
		check(t, widest, s)
	}
}

func TestReadersHaveTheirOwnCodes(t *testing.T) {
	a, b := []int{1}, []int{2, 0, 0, 1}
	first, second, third := fresh(t, widest), fresh(t, widest), fresh(t, widest)
	feed(t, first, "SKN1\x00"+packedBlock(false, freshLiterals(a, "\x01")+"\x00"))
	feed(t, second, "SKN1\x00"+packedBlock(false, freshLiterals(b, "\x04")+"\x00"))
	feed(t, third, "SKN1\x00")
	feed(t, first, packedBlock(false, lastLiterals(a, "\x00\x01")+"\x00"))
	feed(t, second, packedBlock(false, lastLiterals(b, "\x00\x03")+"\x00"))
	feed(t, third, packedBlock(false, lastLiterals(a, "\x00\x01")+"\x00"))
	wantRead(t, first, 9, "\x01\x00\x01", api.OK)
	wantRead(t, second, 9, "\x04\x00\x03", api.OK)
	wantRead(t, third, 9, "", api.ErrFormat)
}

func TestEachNumberOfWeights(t *testing.T) {
	for n := range 256 {
		weights := append([]int{1}, make([]int, 255)...)[:n]
		// The values 0 and n have a bit each.
		bytes := "\x0a\x00" + weightBytes(weights) + "\x01\x00\x40\x00"
		if n == 0 || n > api.MaxWeights {
			wantRefused(t, "weights that are none, or too many", bytes)
			continue
		}
		wantContent(t, "as many weights", bytes, "\x00"+little(n, 1))
	}
}

func TestWeights(t *testing.T) {
	for w := range 16 {
		bytes := "\x0a\x00" + weightBytes([]int{w}) + "\x01\x00\x40\x00"
		if w == 0 || w > api.MaxBits {
			wantRefused(t, "a weight that makes no codes", bytes)
			continue
		}
		wantContent(t, "a weight", bytes, "\x00\x01")
	}
	for _, c := range []struct {
		what    string
		weights []int
	}{
		{"no weights", nil},
		{"noughts", make([]int, 7)},
		{"the most noughts", make([]int, 128)},
		{"a rest that is no power of 2", []int{3, 1}},
		{"more bits than MaxBits", []int{8, 8}},
		{"more bits than MaxBits, of many", slices.Repeat([]int{2}, 128)},
		{"a weight above MaxBits behind others", []int{1, 1, 9}},
		{"one weight too many", slices.Repeat([]int{1}, 129)},
		{"one weight too many, of 0", append(slices.Repeat([]int{1}, 127), 0, 0)},
		{"the most that a byte tells", slices.Repeat([]int{1}, 255)},
	} {
		wantRefused(t, c.what, "\x0a\x00"+weightBytes(c.weights)+"\x01\x00\x40\x00")
		wantRefused(t, c.what+", and no literals", "\x02\x00"+weightBytes(c.weights)+"\x00\x00\x00")
	}
	most := slices.Repeat([]int{1}, 128)
	wantContent(t, "the most weights", freshLiterals(most, "\x80\x00\x7f\x40\x80")+"\x00", "\x80\x00\x7f\x40\x80")
}

func TestHalfByteThatIsLeftOver(t *testing.T) {
	for _, weights := range [][]int{{1}, {1, 1, 1}, {2, 0, 1}, slices.Repeat([]int{1}, 127)} {
		literals := freshLiterals(weights, "\x00")
		at := 2 + 1 + len(weights)/2
		for half := range 16 {
			bytes := literals[:at] + little(int(literals[at])+16*half, 1) + literals[at+1:] + "\x00"
			if half == 0 {
				wantContent(t, "an upper half of 0", bytes, "\x00")
				continue
			}
			wantRefused(t, "an upper half that is left over", bytes)
		}
	}
}

func TestNumberOfBytesOfBits(t *testing.T) {
	for n := range 20 {
		for size := range 5 {
			bytes := literalsHead(2, n) + "\x01\x01" + little(size, 2) + strings.Repeat("\x00", size) + "\x00"
			if size == (n+7)/8 {
				wantContent(t, "as many bytes as the bits need", bytes, strings.Repeat("\x00", n))
				continue
			}
			wantRefused(t, "bytes of bits that are too few or too many", bytes)
		}
	}
	wantRefused(t, "a number of bytes that are not there", "\x06\x00\x01\x01\x03\x00\x00\x00")
	wantRefused(t, "the highest byte first", "\x06\x00\x01\x01\x00\x01\x00\x00")
	wantRefused(t, "the greatest number of bytes", "\x06\x00\x01\x01\xff\xff\x00\x00")
	wantRefused(t, "a second byte of the number", "\x06\x00\x01\x01\x01\x01\x00\x00")
}

func TestBitsThatAreLeft(t *testing.T) {
	for n := 1; n < 17; n++ {
		literals := freshLiterals([]int{1}, strings.Repeat("\x01", n))
		wantContent(t, "noughts are left", literals+"\x00", strings.Repeat("\x01", n))
		end := len(literals) - 1
		for bit := range 8*((n+7)/8) - n {
			wantRefused(t, "a bit that is left and not 0", literals[:end]+little(int(literals[end])+1<<bit, 1)+"\x00")
		}
	}
	// A code that the last bits only begin: of two bits a nought, of three bits two ones.
	wantRefused(t, "half a code at the end", "\x16\x00\x02\x12\x01\x00\xaa\x00")
	wantRefused(t, "two thirds of a code at the end", "\x0e\x00\x07\x11\x11\x11\x01\x01\x00\x03\x00")
	wantRefused(t, "eight bits of 0, and no literals", "\x02\x00\x01\x01\x01\x00\x00\x00")
	check(t, widest, stream{"eight bits of 0, and no literals of the last codes", frameOf("\x06\x00\x01\x01\x01\x00\x80", "\x03\x00\x01\x00\x00"), "\x01", api.ErrFormat, 0, 1})
}

// rightBlocks are packed blocks of each kind of literals, and of tables given in each way, and a block that they may
// lean on.
func rightBlocks() (ahead string, blocks []string) {
	weights := []int{2, 1, 3}
	given := tables{counted(5, 9, 9, 14), agreed(1), counted(6, 60, -1, 0, 3)}
	ahead = packedBlock(false, freshLiterals(weights, "\x00\x01\x02\x03")+given.with(sequence{2, 1, 3}))
	blocks = []string{
		plainLiterals("") + "\x00",
		plainLiterals("abc") + "\x00",
		repeatedLiterals(0, "x") + "\x00",
		repeatedLiterals(5, "x") + "\x00",
		freshLiterals([]int{1}, "") + "\x00",
		freshLiterals([]int{1, 0, 3, 1, 2}, "\x00\x05\x02\x05\x03\x04\x05") + "\x00",
		freshLiterals([]int{2, 1, 0, 1}, "\x04\x01\x01\x03\x00") + "\x00",
		lastLiterals(weights, "") + "\x00",
		lastLiterals(weights, "\x03\x02\x01\x00\x03\x03\x01\x02") + "\x00",
		plainLiterals("ab") + singles(2, 0, 3).with(sequence{2, 1, 6}),
		repeatedLiterals(9, "x") + singles(8, 2, 9).with(sequence{8, 5, 13}),
		lastLiterals(weights, "\x03\x02") + allAgreed().with(sequence{1, 2, 3}, sequence{0, 1, 5}, sequence{1, 5, 12}),
		plainLiterals("abcd") + given.again().with(sequence{2, 2, 6}, sequence{1, 6, 3}),
		plainLiterals("xyz") + tables{agreed(0), counted(5, 16, 4, 4, 8), given[2].again()}.with(sequence{0, 1, 3}, sequence{3, 8, 6}),
	}
	return ahead, blocks
}

// No block is the beginning of another one, so that bytes that are missing at the end, or too many, are wrong.
func TestBlocksThatEndTooSoonOrTooLate(t *testing.T) {
	ahead, blocks := rightBlocks()
	for _, b := range blocks {
		wantRight(t, "a right block", widest, "SKN1\x00"+ahead+packedBlock(true, b))
		for n := range len(b) {
			check(t, widest, stream{"bytes are missing", "SKN1\x00" + ahead + packedBlock(true, b[:n]) + "x", "\x00\x01\x01\x01\x01\x02\x03", api.ErrFormat, 0, 1})
		}
		for _, more := range []string{"\x00", "x", "\x00\x00", "\x00\x00\x00\x00\x00\x00\x00\x00", b} {
			check(t, widest, stream{"bytes are too many", "SKN1\x00" + ahead + packedBlock(true, b+more), "\x00\x01\x01\x01\x01\x02\x03", api.ErrFormat, 0, 1})
		}
	}
}

// wantModel holds a packed block against the model, and counts which it read.
func wantModel(t *testing.T, ahead, bytes string, seen map[api.Errno]int) {
	t.Helper()
	text := "SKN1\x00" + ahead + packedBlock(true, bytes)
	want := modelOf(widest, text, true)
	seen[want.e]++
	if want.e == api.End {
		want.e = api.OK
	}
	check(t, widest, stream{"a byte is another one", text, want.content, want.e, want.at.Frame, want.at.Block})
}

func TestBlocksWithAnotherByteAnywhere(t *testing.T) {
	ahead, blocks := rightBlocks()
	seen := map[api.Errno]int{}
	for _, b := range blocks {
		for i := range b {
			wantModel(t, ahead, b[:i]+b[i+1:], seen)
			for v := range 256 {
				wantModel(t, ahead, b[:i]+little(v, 1)+b[i+1:], seen)
				wantModel(t, ahead, b[:i]+little(v, 1)+b[i:], seen)
			}
		}
	}
	if seen[api.End] < 1000 || seen[api.ErrFormat] < 10000 {
		t.Errorf("only %d of the blocks are right, and %d wrong", seen[api.End], seen[api.ErrFormat])
	}
}

func TestEndOfAPackedBlock(t *testing.T) {
	wantRefused(t, "no byte at all", "")
	wantRefused(t, "half a head", "\x00")
	wantRefused(t, "no number of sequences", "\x0c\x00abc")
	wantRefused(t, "a byte behind no sequences", "\x0c\x00abc\x00x")
	wantRefused(t, "a sequence that is not there", "\x0c\x00abc\x01")
	wantRefused(t, "the most sequences, which are not there", "\x0c\x00abc\xff")
}

func TestPackedBlocksInSizesAndSums(t *testing.T) {
	a := packedBlock(false, freshLiterals([]int{1}, "\x01\x00")+"\x00")
	b := packedBlock(true, repeatedLiterals(3, "x")+"\x00")
	all := "\x01\x00xxx"
	for _, s := range []stream{
		{"the right size and sum", "SKN1\x18\x05\x00\x00" + a + b + sumOf(all), all, api.OK, 1, 0},
		{"a wrong sum", "SKN1\x18\x05\x00\x00" + a + b + sumOf("xxx"), all, api.ErrSum, 0, 2},
		{"a size that is one more", "SKN1\x10\x06\x00\x00" + a + b, "\x01\x00", api.ErrFormat, 0, 1},
		{"a size that is one less", "SKN1\x10\x04\x00\x00" + a + b, "\x01\x00", api.ErrFormat, 0, 1},
		{"a size that the first block is longer than", "SKN1\x10\x01\x00\x00" + a + b, "", api.ErrFormat, 0, 0},
		{"a size of 0, and no content", "SKN1\x10\x00\x00\x00" + packedBlock(true, "\x00\x00\x00"), "", api.OK, 1, 0},
	} {
		check(t, widest, s)
	}
}

// A packed block is read when its last byte is there, and not ahead of that, whatever its bytes are.
func TestPackedBlockIsOneUnit(t *testing.T) {
	text := packedBlock(false, freshLiterals([]int{1}, "\x01\x00")+"\x00")
	r := fresh(t, widest)
	feed(t, r, "SKN1\x00"+text[:len(text)-1])
	wantRead(t, r, 9, "", api.Wait)
	wantPlace(t, r, 0, 0, api.Wait)
	feed(t, r, text[len(text)-1:])
	wantRead(t, r, 9, "\x01\x00", api.OK)
	wrong := blockHeader(true, 2, 9) + "\xff\xff\xff\xff\xff\xff\xff\xff"
	feed(t, r, wrong)
	wantRead(t, r, 9, "", api.Wait)
	wantPlace(t, r, 0, 0, api.Wait)
	feed(t, r, "\xff")
	wantRead(t, r, 9, "", api.ErrFormat)
	wantPlace(t, r, 0, 1, api.ErrFormat)
	check(t, widest, stream{"a wrong block that is cut", "SKN1\x00" + text + wrong, "\x01\x00", api.ErrShort, 0, 1})
}
