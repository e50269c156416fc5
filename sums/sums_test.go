package sums

import (
	"strings"
	"testing"
)

// drawn gives bytes without a period that a stripe could hide.
func drawn(n int) string {
	s := make([]byte, n)
	for i := range s {
		s[i] = byte(i*37 + 11)
	}
	return string(s)
}

func TestSumOfTexts(t *testing.T) {
	for _, c := range []struct {
		s    string
		want uint32
	}{
		{"", 0x02CC5D05},
		{"a", 0x550D7456},
		{"abc", 0x32D153FF},
		{"xxxx", 0x75E6ED2F},
		{"\x00", 0xCF65B03E},
		{"\xe2\x82\xac\xff\x00", 0xB92D94EF},
		{"Nobody inspects the spammish repetition", 0xE2293B2F},
		{strings.Repeat("\x00", 15), 0x4E74A649},
		{strings.Repeat("\x00", 16), 0x8E022B3A},
		{strings.Repeat("\xff", 16), 0xD85160AA},
		{strings.Repeat("\xff", 19), 0x328424DC},
		{strings.Repeat("\xff", 23), 0xDA266699},
	} {
		if got := Sum(c.s); got != c.want {
			t.Errorf("P3: Sum(%q) = %#08x, want %#08x", c.s, got, c.want)
		}
	}
}

// The sums wanted here come from another program for XXH32.
func TestSumOfEachLength(t *testing.T) {
	for _, c := range []struct {
		n    int
		want uint32
	}{
		{0, 0x02CC5D05}, {1, 0x3FE5A29D}, {2, 0x78B7FB0E}, {3, 0x4021AF28}, {4, 0x1EB8F11A}, {5, 0x07B9DB7D},
		{6, 0x5DD493EA}, {7, 0x02226FE7}, {8, 0x9D02A89C}, {9, 0xC43CA64F}, {10, 0x786ED32F}, {11, 0xE54A009B},
		{12, 0xD40FA400}, {13, 0x78C83171}, {14, 0xE97074DA}, {15, 0x162986EB}, {16, 0x96AC9FA6}, {17, 0x3CDFB1A2},
		{18, 0x4C41719D}, {19, 0xBED5A0EA}, {20, 0x428F0501}, {21, 0xAD6B01C9}, {22, 0x7C763B03}, {23, 0x12A0921B},
		{24, 0xBBC1B5C2}, {25, 0xD76B2DE0}, {26, 0xA362FA20}, {27, 0x360E7D31}, {28, 0x46F665E2}, {29, 0x9697F109},
		{30, 0x7A7A8211}, {31, 0xDF853FBF}, {32, 0xDA8072DC}, {33, 0x3C8FD07D}, {36, 0x92EFF593}, {39, 0x349F040E},
		{47, 0x0EA9C191}, {48, 0x99EE09E8}, {49, 0xDE21158E}, {63, 0x00BF10C5}, {64, 0x043913C6}, {65, 0x3922F755},
		{255, 0xED4ABA76}, {256, 0x8021D20C}, {1000, 0x21C30739}, {1024, 0xC1813765}, {4099, 0xCB4B9F20},
	} {
		if got := Sum(drawn(c.n)); got != c.want {
			t.Errorf("P3: Sum of %d drawn bytes = %#08x, want %#08x", c.n, got, c.want)
		}
	}
}
