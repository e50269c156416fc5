package scan_test

import (
	"errors"
	"math/rand"
	"strings"
	"testing"

	"skein/faults"
	"skein/scan"
)

func TestTakeOfBytes(t *testing.T) {
	b := scan.Bytes("abcde")
	for _, c := range []struct {
		n          int
		want, rest string
		wrong      bool
	}{
		{2, "ab", "cde", false},
		{0, "", "cde", false},
		{4, "", "cde", true},
		{3, "cde", "", false},
		{0, "", "", false},
		{1, "", "", true},
	} {
		got, err := b.Take(c.n)
		if got != c.want || errors.Is(err, faults.Format) != c.wrong || (err != nil) != c.wrong || string(b) != c.rest {
			t.Errorf("Take(%d) = %q, %v, and %q is left; want %q, and %q left", c.n, got, err, b, c.want, c.rest)
		}
	}
}

func TestNumbers(t *testing.T) {
	for _, c := range []struct {
		bytes string
		want  int
	}{
		{"", 0}, {"\x07", 7}, {"\xff", 255}, {"\x01\x00", 1}, {"\x00\x01", 256}, {"\x01\x02\x03", 0x030201}, {"\xff\xfe\xfd\xfc", 0xfcfdfeff},
	} {
		if got := scan.Number(c.bytes); got != c.want {
			t.Errorf("Number(%q) = %d, want %d", c.bytes, got, c.want)
		}
		b := scan.Bytes(c.bytes + "x")
		if got, err := b.Number(len(c.bytes)); got != c.want || err != nil || b != "x" {
			t.Errorf("%d bytes of %q: %d, %v, and %q is left; want %d", len(c.bytes), c.bytes, got, err, b, c.want)
		}
		b = scan.Bytes(c.bytes)
		if got, err := b.Number(len(c.bytes) + 1); got != 0 || !errors.Is(err, faults.Format) || string(b) != c.bytes {
			t.Errorf("%d bytes of %q: %d, %v, and %q is left", len(c.bytes)+1, c.bytes, got, err, b)
		}
	}
}

// written writes the bits of some bytes out, as noughts and ones.
func written(bytes string) string {
	var out strings.Builder
	for i := range len(bytes) {
		for worth := 128; worth > 0; worth /= 2 {
			out.WriteByte("01"[int(bytes[i])/worth%2])
		}
	}
	return out.String()
}

// valueOf is the number that noughts and ones make.
func valueOf(text string) int {
	n := 0
	for _, c := range text {
		n = 2*n + int(c-'0')
	}
	return n
}

func TestBits(t *testing.T) {
	r := rand.New(rand.NewSource(3))
	for range 2000 {
		bytes := make([]byte, r.Intn(6))
		r.Read(bytes)
		if r.Intn(2) == 0 {
			clear(bytes)
		}
		bits, left := scan.BitsOf(string(bytes)), written(string(bytes))
		for {
			n := r.Intn(13)
			if got, want := bits.Peek(n), valueOf((left + strings.Repeat("0", n))[:n]); got != want {
				t.Fatalf("Peek(%d) ahead of %q = %d, want %d", n, left, got, want)
			}
			if got, want := bits.Done(), len(left) < 8 && !strings.Contains(left, "1"); got != want {
				t.Fatalf("Done ahead of %q = %t", left, got)
			}
			if got := bits.Skip(n); got != (n <= len(left)) {
				t.Fatalf("Skip(%d) ahead of %q = %t", n, left, got)
			}
			if n > len(left) {
				break
			}
			left = left[n:]
		}
	}
}

// Take goes on with noughts where no bits are left, and Done does not forget it.
func TestTakeOfBits(t *testing.T) {
	r := rand.New(rand.NewSource(4))
	for range 2000 {
		bytes := make([]byte, r.Intn(6))
		r.Read(bytes)
		if r.Intn(2) == 0 {
			clear(bytes)
		}
		bits, left := scan.BitsOf(string(bytes)), written(string(bytes))
		for beyond := 0; beyond < 3; {
			n := r.Intn(13)
			if got, want := bits.Take(n), valueOf((left + strings.Repeat("0", n))[:n]); got != want {
				t.Fatalf("Take(%d) ahead of %q = %d, want %d", n, left, got, want)
			}
			if n > len(left) {
				beyond++
			}
			left = left[min(n, len(left)):]
			if got, want := bits.Done(), beyond == 0 && len(left) < 8 && !strings.Contains(left, "1"); got != want {
				t.Fatalf("Done ahead of %q, and %d times beyond the end = %t", left, beyond, got)
			}
			if beyond > 0 && bits.Skip(1) {
				t.Fatal("Skip goes on beyond the end")
			}
		}
	}
}
