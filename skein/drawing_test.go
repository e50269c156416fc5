package skein_test

import (
	"math/rand"
	"strings"
	"testing"

	"skein/api"
	"skein/skein"
)

// drawing is a frame that is being drawn: its text so far, with a header that tells neither size nor sum, and what
// later blocks may lean on.
type drawing struct {
	r         *rand.Rand
	flags     int
	id        string
	blocks    string
	weights   []int
	tables    *tables
	sequences int // blocks that have them
}

func drawConfig() api.Config {
	return api.Config{Limit: 256, Dicts: []api.Dict{{ID: 0, Content: "content"}, {ID: 1, Content: strings.Repeat("a longer dictionary, ", 12)}}}
}

func startDrawing(r *rand.Rand) *drawing {
	d := &drawing{r: r, flags: r.Intn(3)}
	if r.Intn(3) == 0 {
		d.flags += 32
		d.id = little(r.Intn(2), 1)
	}
	return d
}

// told is what the model tells of the frame so far and of some more blocks.
func (d *drawing) told(blocks string) told {
	return modelOf(drawConfig(), "SKN1"+little(d.flags, 1)+d.id+d.blocks+blocks, true)
}

// literals draws literals for a packed block.
func (d *drawing) literals() string {
	n := d.r.Intn(30)
	letter := little(d.r.Intn(256), 1)
	switch kind := d.r.Intn(4); {
	case kind == 0:
		return plainLiterals(strings.Repeat(letter+"xyz", n)[:n])
	case kind == 1:
		return repeatedLiterals(n, letter)
	case kind == 2 || d.weights == nil:
		d.weights = drawWeights(d.r)
		return freshLiterals(d.weights, drawLiterals(d.r, d.weights, n))
	}
	return lastLiterals(d.weights, drawLiterals(d.r, d.weights, n))
}

// table draws one of the tables, most often of low symbols, since great offsets are seldom right.
func (d *drawing) table(part int) table {
	most := symbols[part]
	if d.r.Intn(4) > 0 {
		most = 5
	}
	switch way := d.r.Intn(4); {
	case way == 0:
		return agreed(part)
	case way == 1:
		return single(d.r.Intn(most))
	case way == 2 || d.tables == nil:
		return d.counted(5+d.r.Intn(2), most)
	}
	return d.tables[part].again()
}

func (d *drawing) counted(log, most int) table {
	var counts []int
	for left := 1 << log; left > 0; {
		count := min(left, d.r.Intn(20)-1)
		if len(counts) == most-1 {
			count = left
		}
		counts = append(counts, count)
		left -= max(count, -count)
	}
	return counted(log, counts...)
}

// follow draws the bits of sequences: any states that the tables allow, and any extra bits.
func (d *drawing) follow(t tables, number int) string {
	var at [3]api.State
	text := ""
	for part := range 3 {
		first := d.r.Intn(len(t[part].states))
		text += binary(first, logOf(t[part].states))
		at[part] = t[part].states[first]
	}
	for i := range number {
		for _, n := range []int{at[1].Symbol, max(0, at[2].Symbol-7), max(0, at[0].Symbol-7)} {
			text += binary(d.r.Intn(1<<n), n)
		}
		for _, part := range []int{0, 2, 1} {
			if i < number-1 {
				add := d.r.Intn(1 << at[part].Bits)
				text += binary(add, at[part].Bits)
				at[part] = t[part].states[at[part].Base+add]
			}
		}
	}
	return text
}

// packed draws a packed block that is not the last one. Sequences are drawn until they are right, or given up.
func (d *drawing) packed() string {
	literals := d.literals()
	for range 20 {
		if d.r.Intn(8) == 0 {
			break
		}
		var t tables
		for part := range 3 {
			t[part] = d.table(part)
		}
		number := 1 + d.r.Intn(5)
		block := packedBlock(false, literals+t.head(number)+bitBytes(d.follow(t, number)))
		if d.told(block).e == api.ErrShort {
			d.tables = &t
			d.sequences++
			return block
		}
	}
	return packedBlock(false, literals+"\x00")
}

// plain draws a block of another kind that is not the last one.
func (d *drawing) plain() string {
	length := d.r.Intn(20)
	if d.r.Intn(10) == 0 {
		length = d.r.Intn(api.MaxBlock + 1)
	}
	letter := little(d.r.Intn(256), 1)
	if d.r.Intn(2) == 0 {
		return runBlock(false, length, letter)
	}
	return rawBlock(false, strings.Repeat(letter+"abc", length)[:length])
}

// draw draws the blocks up to the last one.
func (d *drawing) draw() {
	for left := d.r.Intn(5); left >= 0; left-- {
		block := d.plain()
		if d.r.Intn(3) > 0 {
			block = d.packed()
		}
		if left == 0 {
			block = little(int(block[0])+1, 1) + block[1:]
		}
		d.blocks += block
	}
}

// text is the whole frame; now its content is known, and a size and a sum can be told.
func (d *drawing) text() string {
	content := d.told("").content
	flags, size, sum := d.flags, "", ""
	if d.r.Intn(2) == 0 {
		flags += 16
		size = little(len(content), 3)
	}
	if d.r.Intn(2) == 0 {
		flags += 8
		sum = sumOf(content)
	}
	return "SKN1" + little(flags, 1) + d.id + size + d.blocks + sum
}

// drawFrame draws a frame that is right for the settings of drawConfig.
func drawFrame(r *rand.Rand) string {
	if r.Intn(5) == 0 {
		n := r.Intn(30)
		return "SKIP" + little(n, 3) + strings.Repeat("x", n)
	}
	d := startDrawing(r)
	d.draw()
	return d.text()
}

func drawStream(r *rand.Rand) string {
	text := ""
	for range r.Intn(4) {
		text += drawFrame(r)
	}
	return text
}

func TestDrawnFrames(t *testing.T) {
	r := rand.New(rand.NewSource(9))
	sequences, leaning := 0, 0
	for range 2000 {
		d := startDrawing(r)
		d.draw()
		sequences += min(1, d.sequences)
		leaning += d.sequences / 2
		text, want := d.text(), d.told("").content
		check(t, drawConfig(), stream{"a drawn frame", text, want, api.OK, 1, 0})
		if got, e := skein.Whole(drawConfig(), strings.Repeat(text, 3)); got != strings.Repeat(want, 3) || e != api.OK {
			t.Fatalf("P10: thrice %q: %q, %d, want thrice %q", text, got, e, want)
		}
	}
	if sequences < 1000 || leaning < 500 {
		t.Errorf("of 2000 drawn frames %d have sequences, and %d blocks others ahead of them: too few", sequences, leaning)
	}
}
