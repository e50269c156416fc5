package codes

import (
	"math"
	"math/rand"
	"slices"
	"testing"

	"skein/api"
)

func TestCodesWrittenOut(t *testing.T) {
	for _, c := range []struct {
		weights []int
		want    []api.Code
	}{
		{[]int{1}, []api.Code{{Value: 0, Bits: 1, Number: 0}, {Value: 1, Bits: 1, Number: 1}}},
		{[]int{2, 1}, []api.Code{{Value: 1, Bits: 2, Number: 0}, {Value: 2, Bits: 2, Number: 1}, {Value: 0, Bits: 1, Number: 1}}},
		{[]int{1, 1, 1}, []api.Code{{Value: 0, Bits: 2, Number: 0}, {Value: 1, Bits: 2, Number: 1}, {Value: 2, Bits: 2, Number: 2}, {Value: 3, Bits: 2, Number: 3}}},
		{[]int{2, 2}, []api.Code{{Value: 0, Bits: 2, Number: 0}, {Value: 1, Bits: 2, Number: 1}, {Value: 2, Bits: 1, Number: 1}}},
		// noughts have no code, but count as values
		{[]int{0, 0, 1}, []api.Code{{Value: 2, Bits: 1, Number: 0}, {Value: 3, Bits: 1, Number: 1}}},
		{[]int{1, 0, 0}, []api.Code{{Value: 0, Bits: 1, Number: 0}, {Value: 3, Bits: 1, Number: 1}}},
		// no weight of 1 at all: the longest code is shorter than b
		{[]int{0, 0, 3, 0, 2}, []api.Code{{Value: 4, Bits: 2, Number: 0}, {Value: 5, Bits: 2, Number: 1}, {Value: 2, Bits: 1, Number: 1}}},
		{[]int{1, 0, 3, 1, 2}, []api.Code{{Value: 0, Bits: 4, Number: 0}, {Value: 3, Bits: 4, Number: 1}, {Value: 4, Bits: 3, Number: 1}, {Value: 2, Bits: 2, Number: 1}, {Value: 5, Bits: 1, Number: 1}}},
		// one weight of MaxBits: the code is short all the same
		{[]int{8}, []api.Code{{Value: 0, Bits: 1, Number: 0}, {Value: 1, Bits: 1, Number: 1}}},
		// each weight once: codes of each length up to MaxBits, the weight that follows being the least
		{[]int{8, 7, 6, 5, 4, 3, 2, 1}, []api.Code{{Value: 7, Bits: 8, Number: 0}, {Value: 8, Bits: 8, Number: 1}, {Value: 6, Bits: 7, Number: 1}, {Value: 5, Bits: 6, Number: 1}, {Value: 4, Bits: 5, Number: 1}, {Value: 3, Bits: 4, Number: 1}, {Value: 2, Bits: 3, Number: 1}, {Value: 1, Bits: 2, Number: 1}, {Value: 0, Bits: 1, Number: 1}}},
	} {
		if l, e := Codes(c.weights); !slices.Equal(l, c.want) || e != api.OK {
			t.Errorf("P5: Codes(%v) = %v, %d, want %v", c.weights, l, e, c.want)
		}
	}
}

func TestCodesOfTheMostWeights(t *testing.T) {
	l, e := Codes(slices.Repeat([]int{1}, api.MaxWeights))
	if e != api.OK || len(l) != api.MaxWeights+1 {
		t.Fatalf("P5: Codes(128 times 1): %d codes, %d", len(l), e)
	}
	for i, code := range l[:api.MaxWeights] {
		if code != (api.Code{Value: i, Bits: 8, Number: i}) {
			t.Errorf("P5: Codes(128 times 1): code %d is %+v", i, code)
		}
	}
	if l[128] != (api.Code{Value: 128, Bits: 1, Number: 1}) {
		t.Errorf("P5: Codes(128 times 1): the last code is %+v", l[128])
	}
	noughts := make([]int, api.MaxWeights)
	noughts[127] = 1
	want := []api.Code{{Value: 127, Bits: 1, Number: 0}, {Value: 128, Bits: 1, Number: 1}}
	if l, e := Codes(noughts); e != api.OK || !slices.Equal(l, want) {
		t.Errorf("P5: Codes(127 times 0, 1) = %v, %d, want %v", l, e, want)
	}
}

func TestCodesOfWrongInputs(t *testing.T) {
	for _, c := range []struct {
		what    string
		weights []int
	}{
		{"no list", nil},
		{"an empty list", []int{}},
		{"one weight too many", slices.Repeat([]int{1}, 129)},
		{"one weight too many, of 0", append(slices.Repeat([]int{1}, 128), 0)},
		{"one weight too many, all but one of 0", append(make([]int, 128), 1)},
		{"a weight of -1", []int{-1, 1}},
		{"a weight of -1 at the end", []int{1, -1}},
		{"a weight of 9", []int{9}},
		{"a weight of 9 beside others", []int{1, 9}},
		{"a weight of 64", []int{1, 64}},
		{"a weight of 65", []int{1, 65}},
		{"the least weight", []int{1, math.MinInt}},
		{"the greatest weight", []int{1, math.MaxInt}},
		{"a total of 0", []int{0}},
		{"a total of 0, of the most weights", make([]int, 128)},
		{"bits just above MaxBits", []int{8, 8}},
		{"bits just above MaxBits, by 1", []int{8, 7, 6, 5, 4, 3, 2, 1, 1}},
		{"bits above MaxBits", slices.Repeat([]int{8}, 128)},
		{"a rest of 3", []int{3, 1}},
		{"a rest of 3, of 8 bits", []int{8, 7, 6, 5, 4, 3, 1}},
		{"a rest of 127", []int{8, 1}},
		{"a rest of 6", []int{4, 2}},
	} {
		if l, e := Codes(c.weights); l != nil || e != api.ErrFormat {
			t.Errorf("P5: %s: Codes(%v) = %v, %d, want nil and ErrFormat", c.what, c.weights, l, e)
		}
	}
}

// checkSpans holds codes against what P5 says of them: their order, and that their spans fill all numbers of b bits.
func checkSpans(t *testing.T, weights []int, l []api.Code) {
	t.Helper()
	b := 0
	for 1<<b <= modelTotal(weights) {
		b++
	}
	end := 0
	for i, code := range l {
		if code.Number<<(b-code.Bits) != end {
			t.Fatalf("P5: Codes(%v) = %v: code %d does not begin at %d", weights, l, i, end)
		}
		end += 1 << (b - code.Bits)
		if code.Value < len(weights) && weights[code.Value] != b+1-code.Bits {
			t.Fatalf("P5: Codes(%v) = %v: code %d has not the bits of its weight", weights, l, i)
		}
		if i > 0 && (code.Bits > l[i-1].Bits || code.Bits == l[i-1].Bits && code.Value <= l[i-1].Value) {
			t.Fatalf("P5: Codes(%v) = %v: code %d is out of order", weights, l, i)
		}
	}
	if end != 1<<b {
		t.Fatalf("P5: Codes(%v) = %v: the spans end at %d", weights, l, end)
	}
}

func modelTotal(weights []int) int {
	total := 0
	for _, w := range weights {
		total += 1 << w / 2
	}
	return total
}

// modelRight tells by trying all weights whether one of them makes the total a power of 2 that is right.
func modelRight(weights []int) bool {
	total, most := modelTotal(weights), 1<<api.MaxBits
	for last := 1; total > 0 && last <= api.MaxBits; last++ {
		sum := total + 1<<last/2
		if sum <= most && sum&(sum-1) == 0 && sum > total && sum <= 2*total {
			return true
		}
	}
	return false
}

func TestCodesDrawn(t *testing.T) {
	r := rand.New(rand.NewSource(5))
	right := 0
	for range 50000 {
		weights := make([]int, 1+r.Intn(8))
		highest := 1 + r.Intn(api.MaxBits)
		for i := range weights {
			weights[i] = r.Intn(highest + 1)
		}
		l, e := Codes(weights)
		if !modelRight(weights) {
			if l != nil || e != api.ErrFormat {
				t.Fatalf("P5: Codes(%v) = %v, %d, want nil and ErrFormat", weights, l, e)
			}
			continue
		}
		right++
		coded := 1
		for _, w := range weights {
			coded += min(w, 1)
		}
		if e != api.OK || len(l) != coded {
			t.Fatalf("P5: Codes(%v) = %v, %d, want %d codes", weights, l, e, coded)
		}
		checkSpans(t, weights, l)
	}
	if right < 1000 {
		t.Errorf("only %d of the drawn weights were right", right)
	}
}

func TestCodesLeaveTheWeightsAlone(t *testing.T) {
	for _, c := range []struct {
		weights []int
		want    api.Errno
	}{
		{[]int{1, 0, 3, 1, 2}, api.OK},
		{[]int{3, 1}, api.ErrFormat},
	} {
		room := append(slices.Clone(c.weights), 77, 78, 79)
		if _, e := Codes(room[:len(c.weights)]); e != c.want {
			t.Errorf("P5: Codes(%v): %d, want %d", c.weights, e, c.want)
		}
		if want := append(slices.Clone(c.weights), 77, 78, 79); !slices.Equal(room, want) {
			t.Errorf("P2: Codes wrote into the weights or their spare room: %v, want %v", room, want)
		}
	}
}

func TestCodesShareNoRoom(t *testing.T) {
	weights := []int{1, 0, 3, 1, 2}
	first, _ := Codes(weights)
	second, _ := Codes(weights)
	want := slices.Clone(second)
	for i := range first[:cap(first)] {
		first[:cap(first)][i] = api.Code{Value: 99, Bits: 99, Number: 99}
	}
	weights[0] = 4
	if !slices.Equal(second, want) {
		t.Errorf("P2: earlier codes, overwritten, show in later ones: %v", second)
	}
	if third, _ := Codes([]int{1, 0, 3, 1, 2}); !slices.Equal(third, want) {
		t.Errorf("P2: earlier codes, overwritten, show in new ones: %v", third)
	}
}
