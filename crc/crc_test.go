package crc

import (
	"hash/crc32"
	"math"
	"strings"
	"testing"
)

// known are texts whose checksums stand in the document or in the standards, or have a zero byte at an end.
var known = []struct {
	s   string
	sum uint32
}{
	{"", 0},
	{"123456789", 0xe3069283},
	{strings.Repeat("\x00", 32), 0x8a9136aa},
	{strings.Repeat("\xff", 32), 0x62a8ab43},
	{upTo32(), 0x46dd794e},
	{"a", 0xc1d04330},
	{"\x00", 0x527d5351},
	{"C", 0x0056bd19},
	{"\xa2", 0x110d9600},
}

func upTo32() string {
	b := make([]byte, 32)
	for i := range b {
		b[i] = byte(i)
	}
	return string(b)
}

// bitByBit is the checksum as the chapter's words tell it.
func bitByBit(s string) uint32 {
	w := uint32(math.MaxUint32)
	for i := range len(s) {
		w ^= uint32(s[i])
		for range 8 {
			odd := w&1 == 1
			w /= 2
			if odd {
				w ^= 0x82f63b78
			}
		}
	}
	return ^w
}

// noise is n bytes that look like no rule, the same ones each time.
func noise(n int) string {
	b := make([]byte, n)
	v := uint64(n) + 1
	for i := range b {
		v = v*6364136223846793005 + 1442695040888963407
		b[i] = byte(v >> 56)
	}
	return string(b)
}

// P2.1: what is known.
func TestKnown(t *testing.T) {
	for _, x := range known {
		if got := Sum(x.s); got != x.sum {
			t.Errorf("%q: %08x, not %08x", x.s, got, x.sum)
		}
	}
}

// P2.1: each byte alone, each pair of bytes, and texts of many lengths.
func TestSum(t *testing.T) {
	check := func(s string) {
		if got, want := Sum(s), bitByBit(s); got != want {
			t.Errorf("%q: %08x, not %08x", s, got, want)
		}
	}
	for a := range 256 {
		check(string([]byte{byte(a)}))
		for b := range 256 {
			check(string([]byte{byte(a), byte(b)}))
		}
	}
	for n := range 600 {
		check(noise(n))
	}
}

// P2.1: texts that are long, against the library's sums.
func TestSumLong(t *testing.T) {
	table := crc32.MakeTable(crc32.Castagnoli)
	for _, n := range []int{4096, 65535, 65536, 65537, 1 << 20} {
		s := noise(n)
		if got, want := Sum(s), crc32.Checksum([]byte(s), table); got != want {
			t.Errorf("%d bytes: %08x, not %08x", n, got, want)
		}
	}
}

// P2.1: More goes on from any checksum, that of no bytes and the greatest one too.
func TestMore(t *testing.T) {
	table := crc32.MakeTable(crc32.Castagnoli)
	words := []uint32{0, 1, 0x80000000, 0x82f63b78, 0xe3069283, math.MaxUint32 - 1, math.MaxUint32}
	for i := range 32 {
		words = append(words, 1<<i, ^uint32(1<<i))
	}
	for _, w := range words {
		for n := range 40 {
			s := noise(n)
			if got, want := More(w, s), crc32.Update(w, table, []byte(s)); got != want {
				t.Errorf("%08x and %d bytes: %08x, not %08x", w, n, got, want)
			}
		}
	}
}

// P2.2: wherever a text is divided, into two or into three.
func TestDivided(t *testing.T) {
	for _, s := range []string{"", "a", "123456789", noise(100), strings.Repeat("\x00", 50), strings.Repeat("\xff", 50)} {
		want := bitByBit(s)
		for i := range len(s) + 1 {
			if got := More(Sum(s[:i]), s[i:]); got != want {
				t.Errorf("%q at %d: %08x, not %08x", s, i, got, want)
			}
			for j := i; j <= len(s); j++ {
				if got := More(More(Sum(s[:i]), s[i:j]), s[j:]); got != want {
					t.Errorf("%q at %d and %d: %08x, not %08x", s, i, j, got, want)
				}
			}
		}
	}
}

// P2.1: four bytes, zero bytes at the ends too, the least significant one first.
func TestDigest(t *testing.T) {
	for _, x := range []struct{ s, digest string }{
		{"", "\x00\x00\x00\x00"},
		{"123456789", "\x83\x92\x06\xe3"},
		{"C", "\x19\xbd\x56\x00"},
		{"\xa2", "\x00\x96\x0d\x11"},
		{strings.Repeat("\x00", 32), "\xaa\x36\x91\x8a"},
	} {
		if got := Digest(x.s); got != x.digest {
			t.Errorf("%q: %x, not %x", x.s, got, x.digest)
		}
	}
	for n := range 300 {
		s := noise(n)
		w := bitByBit(s)
		if got := Digest(s); got != string([]byte{byte(w), byte(w >> 8), byte(w >> 16), byte(w >> 24)}) {
			t.Errorf("%d bytes: %x of %08x", n, got, w)
		}
	}
}

// P2.1: the digest itself is right.
func TestRight(t *testing.T) {
	for _, x := range known {
		w := x.sum
		if !Right(x.s, string([]byte{byte(w), byte(w >> 8), byte(w >> 16), byte(w >> 24)})) {
			t.Errorf("%q", x.s)
		}
	}
	for n := range 300 {
		if s := noise(n); !Right(s, Digest(s)) {
			t.Errorf("%d bytes", n)
		}
	}
}

// P2.1: anything else is not: a bit that differs, bytes in the other order, too few of them, too many.
func TestRightRefused(t *testing.T) {
	for _, x := range known {
		d := Digest(x.s)
		for i := range 32 {
			b := []byte(d)
			b[i/8] ^= 1 << (i % 8)
			if Right(x.s, string(b)) {
				t.Errorf("%q: bit %d", x.s, i)
			}
		}
		wrong := []string{"", d[:1], d[:3], d[1:], d + "\x00", "\x00" + d, d + d, "123456789abc", strings.Repeat(d, 1000)}
		if x.s != "" {
			wrong = append(wrong, string([]byte{d[3], d[2], d[1], d[0]}), "\x00\x00\x00\x00", d+x.s, x.s+d, x.s)
		}
		for _, digest := range wrong {
			if Right(x.s, digest) {
				t.Errorf("%q: %x", x.s, digest)
			}
		}
		for _, y := range known {
			if x.s != y.s && Right(x.s, Digest(y.s)) {
				t.Errorf("%q: the digest of %q", x.s, y.s)
			}
		}
	}
}

// P2.3: every change of one byte, wherever it stands.
func TestOneByteChanged(t *testing.T) {
	for _, s := range []string{"a", "123456789", noise(64), strings.Repeat("\x00", 64), strings.Repeat("\xff", 64)} {
		sum, d := Sum(s), Digest(s)
		for i := range len(s) {
			b := []byte(s)
			for by := 1; by < 256; by++ {
				b[i] = s[i] ^ byte(by)
				if Sum(string(b)) == sum || Right(string(b), d) {
					t.Fatalf("%q: byte %d is %#x", s, i, b[i])
				}
			}
		}
	}
}

// P2.3: every change of two adjacent bytes, wherever they stand.
func TestTwoBytesChanged(t *testing.T) {
	for _, s := range []string{"ab", "123456789", noise(16), strings.Repeat("\x00", 16)} {
		sum := Sum(s)
		for i := range len(s) - 1 {
			b := []byte(s)
			for by := 1; by < 1<<16; by++ {
				b[i], b[i+1] = s[i]^byte(by>>8), s[i+1]^byte(by)
				if Sum(string(b)) == sum {
					t.Fatalf("%q: bytes %d are %x", s, i, b[i:i+2])
				}
			}
		}
	}
}
