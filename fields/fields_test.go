package fields

import (
	"math"
	"strings"
	"testing"
)

const eight = "\x01\x02\x03\x04\x05\x06\x07\x88"

// P1.1: numbers of each size are read in both orders.
func TestRead(t *testing.T) {
	for _, x := range []struct {
		at, n       int
		big, little uint64
	}{
		{1, 2, 515, 770},
		{0, 1, 0x01, 0x01},
		{7, 1, 0x88, 0x88},
		{6, 2, 0x0788, 0x8807},
		{0, 3, 0x010203, 0x030201},
		{4, 4, 0x05060788, 0x88070605},
		{3, 5, 0x0405060788, 0x8807060504},
		{2, 6, 0x030405060788, 0x880706050403},
		{1, 7, 0x02030405060788, 0x88070605040302},
		{0, 8, 0x0102030405060788, 0x8807060504030201},
	} {
		if v, ok := Big(eight, x.at, x.n); v != x.big || !ok {
			t.Errorf("Big(%d, %d): %#x, %v", x.at, x.n, v, ok)
		}
		if v, ok := Little(eight, x.at, x.n); v != x.little || !ok {
			t.Errorf("Little(%d, %d): %#x, %v", x.at, x.n, v, ok)
		}
	}
}

// P1.1: what may not be read.
func TestReadRefused(t *testing.T) {
	for _, x := range []struct {
		s     string
		at, n int
	}{
		{eight, 0, 0}, {eight, 8, 0}, {eight, 0, -1}, {eight, 0, 9}, {eight + eight, 0, 9}, {eight + eight, 0, 16},
		{eight, -1, 1}, {eight, -1, 2}, {eight, -8, 8},
		{eight, 8, 1}, {eight, 7, 2}, {eight, 1, 8}, {eight, 9, 1},
		{"", 0, 1}, {"\x01", 0, 2}, {"\x01", 0, 8},
		{eight, math.MaxInt, 1}, {eight, math.MaxInt, 8}, {eight, math.MinInt, 1},
		{eight, 0, math.MaxInt}, {eight, 0, math.MinInt}, {eight, math.MaxInt, math.MaxInt}, {eight, math.MinInt, math.MinInt},
	} {
		if v, ok := Big(x.s, x.at, x.n); v != 0 || ok {
			t.Errorf("Big(%q, %d, %d): %d, %v", x.s, x.at, x.n, v, ok)
		}
		if v, ok := Little(x.s, x.at, x.n); v != 0 || ok {
			t.Errorf("Little(%q, %d, %d): %d, %v", x.s, x.at, x.n, v, ok)
		}
	}
}

// P1.1: numbers are written in both orders, the bytes that do not fit left out.
func TestWrite(t *testing.T) {
	for _, x := range []struct {
		v           uint64
		n           int
		big, little string
	}{
		{258, 4, "\x00\x00\x01\x02", "\x02\x01\x00\x00"},
		{258, 2, "\x01\x02", "\x02\x01"},
		{258, 1, "\x02", "\x02"},
		{0, 3, "\x00\x00\x00", "\x00\x00\x00"},
		{0x0102030405060788, 8, eight, "\x88\x07\x06\x05\x04\x03\x02\x01"},
		{0x0102030405060788, 3, "\x06\x07\x88", "\x88\x07\x06"},
		{math.MaxUint64, 5, "\xff\xff\xff\xff\xff", "\xff\xff\xff\xff\xff"},
		{258, 0, "", ""}, {258, -1, "", ""}, {258, 9, "", ""}, {258, math.MaxInt, "", ""}, {258, math.MinInt, "", ""},
	} {
		if s := PutBig(x.v, x.n); s != x.big {
			t.Errorf("PutBig(%#x, %d): %q", x.v, x.n, s)
		}
		if s := PutLittle(x.v, x.n); s != x.little {
			t.Errorf("PutLittle(%#x, %d): %q", x.v, x.n, s)
		}
	}
}

// P1.2: each of the 64 bits alone, and the numbers of bits that are not there.
func TestBit(t *testing.T) {
	for n := range 64 {
		v := uint64(1) << n
		for m := range 64 {
			if Bit(v, m) != (m == n) || Bit(^v, m) != (m != n) {
				t.Errorf("bit %d of %#x", m, v)
			}
		}
	}
	for _, n := range []int{-1, 64, 65, 128, -64, math.MaxInt, math.MinInt} {
		if Bit(math.MaxUint64, n) {
			t.Errorf("bit %d", n)
		}
	}
}

// P1.2: all ranges of bits that are there.
func TestBits(t *testing.T) {
	const v = 0xfedcba9876543210
	for lo := range 64 {
		for n := 1; lo+n <= 64; n++ {
			var want uint64
			for i := range n {
				if Bit(v, lo+i) {
					want |= 1 << i
				}
			}
			if got := Bits(v, lo, n); got != want {
				t.Errorf("Bits(%d, %d): %#x, not %#x", lo, n, got, want)
			}
		}
	}
	if got := Bits(v, 4, 8); got != 0x21 {
		t.Errorf("%#x", got)
	}
}

// P1.2: ranges of bits that are not there.
func TestBitsRefused(t *testing.T) {
	for _, x := range [][2]int{
		{0, 0}, {0, -1}, {63, 0}, {-1, 1}, {-1, 65}, {0, 65}, {1, 64}, {63, 2}, {64, 1}, {64, 0}, {65, -1},
		{math.MaxInt, 1}, {1, math.MaxInt}, {math.MaxInt, math.MaxInt}, {math.MinInt, 1}, {0, math.MinInt}, {math.MinInt, math.MaxInt},
	} {
		if got := Bits(math.MaxUint64, x[0], x[1]); got != 0 {
			t.Errorf("Bits(%d, %d): %#x", x[0], x[1], got)
		}
	}
}

// P1.3: the text stands in front, zero bytes behind it, no more than needed.
func TestPad(t *testing.T) {
	for _, x := range []struct {
		s    string
		n    int
		want string
	}{
		{"abc", 4, "abc\x00"}, {"a", 4, "a\x00\x00\x00"}, {"abcd", 4, "abcd"}, {"abcde", 4, "abcde\x00\x00\x00"},
		{"", 1, ""}, {"", 4, ""}, {"", 4096, ""}, {"abc", 1, "abc"}, {"ab\x00", 2, "ab\x00\x00"},
		{"a", 4096, "a" + strings.Repeat("\x00", 4095)}, {"a", 4095, "a" + strings.Repeat("\x00", 4094)},
		{"abc", 0, "abc"}, {"abc", -1, "abc"}, {"abc", -4, "abc"}, {"abc", 4097, "abc"}, {"abc", math.MaxInt, "abc"}, {"abc", math.MinInt, "abc"},
	} {
		if got := Pad(x.s, x.n); got != x.want {
			t.Errorf("Pad(%q, %d): %d bytes, %q", x.s, x.n, len(got), got[:min(len(got), 8)])
		}
	}
	long := strings.Repeat("x", 4097)
	if got := Pad(long, 4096); got != long+strings.Repeat("\x00", 4095) {
		t.Errorf("%d bytes", len(got))
	}
}

// P1.3: bytes are replaced where they are, and the length stays.
func TestSet(t *testing.T) {
	for _, x := range []struct {
		at         int
		with, want string
	}{
		{0, "x", "xbcd"}, {1, "xy", "axyd"}, {3, "x", "abcx"}, {0, "wxyz", "wxyz"}, {2, "\x00\xff", "ab\x00\xff"},
		{0, "", "abcd"}, {2, "", "abcd"}, {4, "", "abcd"},
	} {
		if got, ok := Set("abcd", x.at, x.with); got != x.want || !ok {
			t.Errorf("Set(%d, %q): %q, %v", x.at, x.with, got, ok)
		}
	}
	if got, ok := Set("", 0, ""); got != "" || !ok {
		t.Errorf("%q, %v", got, ok)
	}
}

// P1.3: of no bytes all are there, wherever the index points.
func TestSetNothing(t *testing.T) {
	for _, at := range []int{5, 6, math.MaxInt} {
		if got, ok := Set("abcd", at, ""); got != "abcd" || !ok {
			t.Errorf("%d: %q, %v", at, got, ok)
		}
	}
}

// P1.3: bytes that are not there.
func TestSetRefused(t *testing.T) {
	for _, x := range []struct {
		s    string
		at   int
		with string
	}{
		{"abcd", -1, ""}, {"abcd", -1, "x"}, {"abcd", -1, "xy"}, {"abcd", 4, "x"}, {"abcd", 3, "xy"}, {"abcd", 0, "vwxyz"},
		{"", 0, "x"}, {"abcd", 5, "x"}, {"abcd", math.MaxInt, "x"}, {"abcd", math.MaxInt - 1, "xyz"}, {"abcd", math.MinInt, "x"}, {"abcd", math.MinInt, ""},
	} {
		if got, ok := Set(x.s, x.at, x.with); got != "" || ok {
			t.Errorf("Set(%q, %d, %q): %q, %v", x.s, x.at, x.with, got, ok)
		}
	}
}

// P1.4: what was written is read, wherever it stands, and one order is the reverse of the other.
func TestBack(t *testing.T) {
	v := uint64(1)
	for range 200 {
		v = v*6364136223846793005 + 1442695040888963407
		for n := 1; n <= 8; n++ {
			want := v
			if n < 8 {
				want = v % (1 << (8 * n))
			}
			big, little := PutBig(v, n), PutLittle(v, n)
			if got, ok := Big("abc"+big+"z", 3, n); got != want || !ok {
				t.Errorf("%#x in %d: %#x, %v", v, n, got, ok)
			}
			if got, ok := Little("abc"+little+"z", 3, n); got != want || !ok {
				t.Errorf("%#x in %d: %#x, %v", v, n, got, ok)
			}
			if big != reverse(little) {
				t.Errorf("%#x in %d: %q, %q", v, n, big, little)
			}
		}
	}
}

func reverse(s string) string {
	var b strings.Builder
	for i := range len(s) {
		b.WriteByte(s[len(s)-1-i])
	}
	return b.String()
}
