package cdb

import (
	"math"
	"math/rand"
	"strings"
	"testing"

	"headgate/api"
)

func zeros(n int) string { return strings.Repeat("\x00", n) }

// with is s with the bytes from at on replaced.
func with(s string, at int, by string) string { return s[:at] + by + s[at+len(by):] }

// bases are blocks, at least one for each command: with nothing asked for, with all bits set that may be, and with bytes
// that all differ. Bits that the table does not mention are set in some and not in others.
func bases() []string {
	count := "\x00\x01\x02\x03\x04\x05\x06\x07\x08\x09\x0a\x0b\x0c\x0d\x0e\x0f"
	var l []string
	for _, first := range firsts {
		n := sizes[first]
		for _, rest := range []string{zeros(n), strings.Repeat("\xff", n), count[:n]} {
			s := string([]byte{first}) + rest[1:n-1] + "\x00"
			switch first {
			case 0x88, 0x89, 0x8a, 0x93:
				// The upper half of Lba is 0, and the upper bit of the other numbers.
				s = with(s, 2, "\x00\x00\x00\x00"+string([]byte{s[6] & 0x7f}))
				if first != 0x89 {
					s = with(s, 10, string([]byte{s[10] & 0x7f}))
				}
				if first == 0x93 {
					s = with(s, 1, string([]byte{s[1] | 1}))
				}
			case 0x5e:
				l = append(l, with(s, 1, string([]byte{s[1]&0xe0 | 1})))
				s = with(s, 1, string([]byte{s[1] & 0xe0}))
			case 0x5f:
				s = with(s, 5, "\x00\x00\x00\x18")
				for _, action := range []byte{1, 2, 3, 4, 6} {
					l = append(l, with(s, 1, string([]byte{s[1]&0xe0 | action, 0x08})))
				}
				s = with(s, 1, string([]byte{s[1] & 0xe0, 0}))
			}
			l = append(l, s)
		}
	}
	return l
}

// holdParse holds Parse of s against the chapter's words, and Build of what it answers.
func holdParse(t *testing.T, s string) {
	t.Helper()
	want, ok := modelParse(s)
	wantErr := api.OK
	if !ok {
		wantErr = api.ErrCdb
	}
	got, err := Parse(s)
	if got != want || err != wantErr {
		t.Fatalf("Parse(%x): %+v, %v, not %+v, %v", s, got, err, want, wantErr)
	}
	if ok {
		holdBuild(t, want)
	}
}

// holdBuild holds Build of x against the chapter's words, and that Parse of the block is x.
func holdBuild(t *testing.T, x Ask) {
	t.Helper()
	want, ok := modelBuild(x)
	got, err := Build(x)
	if !ok {
		if got != "" || err != api.ErrCdb {
			t.Fatalf("Build(%+v): %x, %v, though no block asks it", x, got, err)
		}
		return
	}
	if got != want || err != api.OK {
		t.Fatalf("Build(%+v): %x, %v, not %x", x, got, err, want)
	}
	if back, err := Parse(got); back != x || err != api.OK {
		t.Fatalf("Parse(%x): %+v, %v, not %+v", got, back, err, x)
	}
}

// P15.1: all first bytes, alone and with anything behind them; what is no block in another way has its length too.
func TestLength(t *testing.T) {
	for first := range 256 {
		for _, rest := range []string{"", "\x00", zeros(5), zeros(9), zeros(11), zeros(15), zeros(100), "\xff", strings.Repeat("\xff", 9), "\x05" + strings.Repeat("\xff", 20)} {
			s := string([]byte{byte(first)}) + rest
			if got := Length(s); got != sizes[byte(first)] {
				t.Errorf("Length(%x): %d, not %d", s, got, sizes[byte(first)])
			}
		}
	}
	if got := Length(""); got != 0 {
		t.Errorf("of no bytes: %d", got)
	}
}

// P15.1: both numberings, numbers around them and far from them, and ones that would be such if some of their bits were lost.
func TestTypes(t *testing.T) {
	l := []int{math.MinInt, math.MaxInt, math.MinInt + 1, math.MaxInt - 1, math.MinInt32, math.MaxInt32}
	for n := -300; n <= 300; n++ {
		l = append(l, n, n<<8, n<<32, n+1<<16, n+1<<31, n+1<<32, n-1<<32, n+1<<62, n-1<<62)
	}
	for _, n := range l {
		if got := Type(n); got != modelType(n) {
			t.Errorf("Type(%d): %d", n, got)
		}
		if got := Number(n); got != protocol[n] {
			t.Errorf("Number(%d): %d", n, got)
		}
	}
	for typ, n := range map[int]int{api.WriteExclusive: 1, api.Exclusive: 3, api.WriteRegistrants: 5, api.Registrants: 6, api.WriteAll: 7, api.All: 8} {
		if Number(typ) != n || Type(n) != typ {
			t.Errorf("%d and %d: %d, %d", typ, n, Number(typ), Type(n))
		}
	}
}

// P15.2: each row of the table, written out, with bytes that all differ.
func TestRows(t *testing.T) {
	for _, x := range []struct {
		s    string
		want Ask
	}{
		{"\x00\x00\x00\x00\x00\x00", Ask{}},
		{"\x12\x00\x00\x03\x04\x00", Ask{Op: 0x12, Want: 0x0304}},
		{"\x12\x01\x00\x03\x04\x00", Ask{Op: 0x12, Page: 256, Want: 0x0304}},
		{"\x12\x01\xb0\x00\xff\x00", Ask{Op: 0x12, Page: 256 + 0xb0, Want: 255}},
		{"\x12\x01\xff\xff\xff\x00", Ask{Op: 0x12, Page: 511, Want: 65535}},
		{"\x25\x00\x00\x00\x00\x00\x00\x00\x00\x00", Ask{Op: 0x25}},
		{"\x28\x00\x00\x00\x00\x05\x00\x00\x02\x00", Ask{Op: 0x28, Lba: 5, Blocks: 2}},
		{"\x28\x00\x12\x34\x56\x78\x00\x9a\xbc\x00", Ask{Op: 0x28, Lba: 0x12345678, Blocks: 0x9abc}},
		{"\x88\x00\x00\x00\x00\x00\x12\x34\x56\x78\x11\x22\x33\x44\x00\x00", Ask{Op: 0x88, Lba: 0x12345678, Blocks: 0x11223344}},
		{"\x2a\x00\x12\x34\x56\x78\x00\x9a\xbc\x00", Ask{Op: 0x2a, Lba: 0x12345678, Blocks: 0x9abc}},
		{"\x2a\x08\x87\x65\x43\x21\x00\x00\x40\x00", Ask{Op: 0x2a, Lba: 0x87654321, Blocks: 64, Fua: true}},
		{"\x8a\x00\x00\x00\x00\x00\x12\x34\x56\x78\x11\x22\x33\x44\x00\x00", Ask{Op: 0x8a, Lba: 0x12345678, Blocks: 0x11223344}},
		{"\x8a\x08\x00\x00\x00\x00\x12\x34\x56\x78\x11\x22\x33\x44\x00\x00", Ask{Op: 0x8a, Lba: 0x12345678, Blocks: 0x11223344, Fua: true}},
		{"\x35\x00\x00\x00\x00\x00\x00\x00\x00\x00", Ask{Op: 0x35}},
		{"\x42\x00\x00\x00\x00\x00\x00\x12\x34\x00", Ask{Op: 0x42, Want: 0x1234}},
		{"\x89\x00\x00\x00\x00\x00\x12\x34\x56\x78\x00\x00\x00\x9a\x00\x00", Ask{Op: 0x89, Lba: 0x12345678, Blocks: 0x9a}},
		{"\x93\x01\x00\x00\x00\x00\x12\x34\x56\x78\x11\x22\x33\x44\x00\x00", Ask{Op: 0x93, Lba: 0x12345678, Blocks: 0x11223344}},
		{"\x5e\x00\x00\x00\x00\x00\x00\x12\x34\x00", Ask{Op: 0x5e00, Want: 0x1234}},
		{"\x5e\x01\x00\x00\x00\x00\x00\x12\x34\x00", Ask{Op: 0x5e01, Want: 0x1234}},
		{"\x5f\x00\x00\x00\x00\x00\x00\x00\x18\x00", Ask{Op: 0x5f00, Want: 24}},
		{"\x5f\x01\x03\x00\x00\x00\x00\x00\x18\x00", Ask{Op: 0x5f01, Want: 24, Type: api.Exclusive}},
		{"\x5f\x02\x05\x00\x00\x00\x00\x00\x18\x00", Ask{Op: 0x5f02, Want: 24, Type: api.WriteRegistrants}},
		{"\x5f\x03\x00\x00\x00\x00\x00\x00\x18\x00", Ask{Op: 0x5f03, Want: 24}},
		{"\x5f\x04\x08\x00\x00\x00\x00\x00\x18\x00", Ask{Op: 0x5f04, Want: 24, Type: api.All}},
		{"\x5f\x06\x00\x00\x00\x00\x00\x00\x18\x00", Ask{Op: 0x5f06, Want: 24}},
		{"\xa0\x00\x00\x00\x00\x00\x12\x34\x56\x78\x00\x00", Ask{Op: 0xa0, Want: 0x12345678}},
	} {
		if got, err := Parse(x.s); got != x.want || err != api.OK {
			t.Errorf("Parse(%x): %+v, %v", x.s, got, err)
		}
		if got, err := Build(x.want); got != x.s || err != api.OK {
			t.Errorf("Build(%+v): %x, %v", x.want, got, err)
		}
	}
}

// P15.2: the table does not mention these bytes and bits, so whatever stands there is ignored; a built block has 0 there.
func TestIgnored(t *testing.T) {
	for _, x := range []struct{ s, plain string }{
		{"\x00\xff\xff\xff\xff\x00", zeros(6)},
		{"\x12\xfe\xff\x03\x04\x00", "\x12\x00\x00\x03\x04\x00"}, // no page is requested
		{"\x12\xff\x83\x03\x04\x00", "\x12\x01\x83\x03\x04\x00"},
		{"\x25\xff\xff\xff\xff\xff\xff\xff\xff\x00", "\x25" + zeros(9)},
		{"\x28\xff\x00\x00\x00\x05\xff\x00\x02\x00", "\x28\x00\x00\x00\x00\x05\x00\x00\x02\x00"}, // a read has no Fua
		{"\x88\xff\x00\x00\x00\x00\x00\x00\x00\x05\x00\x00\x00\x02\xff\x00", "\x88\x00\x00\x00\x00\x00\x00\x00\x00\x05\x00\x00\x00\x02\x00\x00"},
		{"\x2a\xf7\x00\x00\x00\x05\xff\x00\x02\x00", "\x2a\x00\x00\x00\x00\x05\x00\x00\x02\x00"},
		{"\x2a\xff\x00\x00\x00\x05\xff\x00\x02\x00", "\x2a\x08\x00\x00\x00\x05\x00\x00\x02\x00"},
		{"\x8a\xf7\x00\x00\x00\x00\x00\x00\x00\x05\x00\x00\x00\x02\xff\x00", "\x8a\x00\x00\x00\x00\x00\x00\x00\x00\x05\x00\x00\x00\x02\x00\x00"},
		{"\x8a\xff\x00\x00\x00\x00\x00\x00\x00\x05\x00\x00\x00\x02\xff\x00", "\x8a\x08\x00\x00\x00\x00\x00\x00\x00\x05\x00\x00\x00\x02\x00\x00"},
		{"\x35\xff\xff\xff\xff\xff\xff\xff\xff\x00", "\x35" + zeros(9)},
		{"\x42\xff\xff\xff\xff\xff\xff\x00\x18\x00", "\x42\x00\x00\x00\x00\x00\x00\x00\x18\x00"},
		{"\x89\xff\x00\x00\x00\x00\x00\x00\x00\x05\xff\xff\xff\x02\xff\x00", "\x89\x00\x00\x00\x00\x00\x00\x00\x00\x05\x00\x00\x00\x02\x00\x00"},
		{"\x93\xff\x00\x00\x00\x00\x00\x00\x00\x05\x00\x00\x00\x02\xff\x00", "\x93\x01\x00\x00\x00\x00\x00\x00\x00\x05\x00\x00\x00\x02\x00\x00"},
		{"\x5e\xe0\xff\xff\xff\xff\xff\x01\x00\x00", "\x5e\x00\x00\x00\x00\x00\x00\x01\x00\x00"},
		{"\x5e\xe1\xff\xff\xff\xff\xff\x01\x00\x00", "\x5e\x01\x00\x00\x00\x00\x00\x01\x00\x00"},
		{"\x5f\xe1\x01\xff\xff\x00\x00\x00\x18\x00", "\x5f\x01\x01\x00\x00\x00\x00\x00\x18\x00"},
		{"\x5f\xe0\x0f\xff\xff\x00\x00\x00\x18\x00", "\x5f\x00\x00\x00\x00\x00\x00\x00\x18\x00"}, // the type of these is ignored
		{"\x5f\xe3\x08\xff\xff\x00\x00\x00\x18\x00", "\x5f\x03\x00\x00\x00\x00\x00\x00\x18\x00"},
		{"\x5f\xe6\x02\xff\xff\x00\x00\x00\x18\x00", "\x5f\x06\x00\x00\x00\x00\x00\x00\x18\x00"},
		{"\xa0\xff\xff\xff\xff\xff\x00\x00\x01\x00\xff\x00", "\xa0\x00\x00\x00\x00\x00\x00\x00\x01\x00\x00\x00"},
	} {
		got, err := Parse(x.s)
		plain, plainErr := Parse(x.plain)
		if got != plain || err != api.OK || plainErr != api.OK {
			t.Errorf("Parse(%x): %+v, %v; Parse(%x): %+v, %v", x.s, got, err, x.plain, plain, plainErr)
		}
		if b, err := Build(got); b != x.plain || err != api.OK {
			t.Errorf("Build(%+v): %x, %v", got, b, err)
		}
	}
}

// P15.2: what is no block, each for one reason.
func TestRefused(t *testing.T) {
	for _, s := range []string{
		"", "\x01" + zeros(5), "\x02", "\x5d" + zeros(9), "\x60" + zeros(9), "\x92\x01" + zeros(14), "\xff" + zeros(15),
		"\x93" + zeros(15), "\x93\xfe" + zeros(14), // the bit that must be set
		"\x88" + zeros(5) + "\x80" + zeros(9), "\x88\x00\x80" + zeros(13), "\x88" + zeros(4) + "\x01" + zeros(10), "\x88" + zeros(9) + "\x80" + zeros(5),
		"\x8a" + zeros(5) + "\x80" + zeros(9), "\x8a\x00\x80" + zeros(13), "\x8a" + zeros(4) + "\x01" + zeros(10), "\x8a" + zeros(9) + "\x80" + zeros(5),
		"\x89" + zeros(5) + "\x80" + zeros(9), "\x89\x00\x80" + zeros(13), "\x89" + zeros(4) + "\x01" + zeros(10),
		"\x93\x01" + zeros(4) + "\x80" + zeros(9), "\x93\x01\x80" + zeros(13), "\x93\x01" + zeros(3) + "\x01" + zeros(10), "\x93\x01" + zeros(8) + "\x80" + zeros(5),
		"\x5e\x02" + zeros(8), "\x5e\x1f" + zeros(8), "\x5e\x10" + zeros(8),
		"\x5f\x05\x01\x00\x00\x00\x00\x00\x18\x00", "\x5f\x07\x01\x00\x00\x00\x00\x00\x18\x00", "\x5f\x10\x01\x00\x00\x00\x00\x00\x18\x00", "\x5f\x1f\x01\x00\x00\x00\x00\x00\x18\x00",
		"\x5f\x00\x00\x00\x00\x00\x00\x00\x17\x00", "\x5f\x00\x00\x00\x00\x00\x00\x00\x19\x00", "\x5f\x00\x00\x00\x00\x00\x00\x01\x18\x00", "\x5f\x00\x00\x00\x00\x00\x01\x00\x18\x00", "\x5f\x00\x00\x00\x00\x01\x00\x00\x18\x00", "\x5f\x01\x01\x00\x00\x00\x00\x00\x00\x00",
		"\x5f\x01\x00\x00\x00\x00\x00\x00\x18\x00", "\x5f\x02\x02\x00\x00\x00\x00\x00\x18\x00", "\x5f\x04\x09\x00\x00\x00\x00\x00\x18\x00", "\x5f\x04\x04\x00\x00\x00\x00\x00\x18\x00",
		"\x5f\x01\x11\x00\x00\x00\x00\x00\x18\x00", "\x5f\x02\x81\x00\x00\x00\x00\x00\x18\x00", "\x5f\x04\x21\x00\x00\x00\x00\x00\x18\x00",
		"\x5f\x00\x10\x00\x00\x00\x00\x00\x18\x00", "\x5f\x03\x80\x00\x00\x00\x00\x00\x18\x00", "\x5f\x06\x40\x00\x00\x00\x00\x00\x18\x00", // the upper bits of a type that is ignored
	} {
		if got, err := Parse(s); got != (Ask{}) || err != api.ErrCdb {
			t.Errorf("Parse(%x): %+v, %v", s, got, err)
		}
	}
}

// P15.2: the last byte, and each length but the right one.
func TestEnds(t *testing.T) {
	for _, s := range bases() {
		if _, err := Parse(s); err != api.OK {
			t.Fatalf("%x is no block", s)
		}
		for last := 1; last < 256; last++ {
			x := s[:len(s)-1] + string([]byte{byte(last)})
			if got, err := Parse(x); got != (Ask{}) || err != api.ErrCdb {
				t.Errorf("Parse(%x): %+v, %v", x, got, err)
			}
		}
		for n := range 40 {
			x := (s + zeros(40))[:n]
			if n == len(s) {
				continue
			}
			if got, err := Parse(x); got != (Ask{}) || err != api.ErrCdb {
				t.Errorf("Parse(%x): %+v, %v", x, got, err)
			}
		}
		long := s + zeros(1<<16)
		if got, err := Parse(long); got != (Ask{}) || err != api.ErrCdb || Length(long) != len(s) {
			t.Errorf("%d bytes of %x: %+v, %v", len(long), s, got, err)
		}
	}
}

// P15.2, P15.3: each byte of each block replaced by each other one, and each two by some.
func TestEveryByte(t *testing.T) {
	some := []string{"\x00", "\x01", "\x03", "\x08", "\x10", "\x18", "\x7f", "\x80", "\xff"}
	for _, s := range bases() {
		for i := range s {
			for v := range 256 {
				holdParse(t, with(s, i, string([]byte{byte(v)})))
			}
			for k := range i {
				for _, v := range some {
					for _, w := range some {
						holdParse(t, with(with(s, i, v), k, w))
					}
				}
			}
		}
	}
}

// P15.2, P15.3: all first bytes with all bits of the second one, in each length.
func TestEveryHead(t *testing.T) {
	for head := range 1 << 16 {
		for _, rest := range []string{zeros(4), zeros(8), "\x08\x00\x00\x00\x00\x00\x18\x00", "\x18\x00\x00\x00\x00\x00\x18\x00", "\x00\x00\x00\x00\x00\x00\x18\x00", zeros(10), zeros(14)} {
			holdParse(t, string([]byte{byte(head >> 8), byte(head)})+rest)
		}
	}
}

// P15.2, P15.3: all types with all changes of reservations.
func TestEveryType(t *testing.T) {
	for action := range 32 {
		for typ := range 256 {
			holdParse(t, "\x5f"+string([]byte{byte(action), byte(typ)})+"\x00\x00\x00\x00\x00\x18\x00")
		}
	}
}

// P15.2, P15.3: texts of any bytes behind each first byte.
func TestRandomBlocks(t *testing.T) {
	r := rand.New(rand.NewSource(15))
	blocks := 0
	for range 300000 {
		first := firsts[r.Intn(len(firsts))]
		b := make([]byte, sizes[first])
		for i := range b {
			if r.Intn(2) == 0 {
				b[i] = byte(r.Intn(256))
			}
		}
		b[0] = first
		if r.Intn(8) > 0 {
			b[len(b)-1] = 0
		}
		if first == 0x5f && r.Intn(8) > 0 {
			copy(b[5:], "\x00\x00\x00\x18")
		}
		if sizes[first] == 16 && r.Intn(8) > 0 {
			copy(b[2:], zeros(4))
		}
		if _, ok := modelParse(string(b)); ok {
			blocks++
		}
		holdParse(t, string(b))
	}
	if blocks < 50000 {
		t.Errorf("only %d blocks", blocks)
	}
}

// edges are numbers to both sides of each end that a field has, and ones that would be inside if some of their bits were lost.
func edges() []int {
	l := []int{math.MinInt, math.MinInt + 1, math.MaxInt, math.MinInt32, math.MinInt32 - 1, -1 << 16, -256, -255, -2, -1}
	for n := range 12 {
		l = append(l, n)
	}
	for _, n := range []int{24, 64, 255, 256, 257, 511, 512, 513, 767, 768, 1<<15 - 1, 1 << 15, 1<<16 - 1, 1 << 16, 1<<16 + 24, 1<<24 - 1, 1 << 24, 1<<31 - 1, 1 << 31, 1<<31 + 1, 1<<32 - 1, 1 << 32, 1<<32 + 24, 1 << 40, 1<<56 + 5, 1 << 62} {
		l = append(l, n, -n)
	}
	return append(l, 23, 25)
}

// ops are the operations, numbers around them, and ones that would be such if some of their bits were lost.
func ops() []int {
	l := edges()
	for first := range 256 {
		l = append(l, first, -first, first+1<<16, first+1<<32, first-1<<32)
	}
	for _, first := range firsts {
		for n := -40; n <= 300; n++ {
			l = append(l, 256*int(first)+n)
		}
		for _, n := range []int{1 << 16, 1 << 24, 1 << 32, 1 << 62, math.MinInt, -1 << 16} {
			l = append(l, 256*int(first)+1+n)
		}
	}
	return l
}

// P15.2: all operations, beside fields as the commands need them and not.
func TestBuildEveryOp(t *testing.T) {
	for _, op := range ops() {
		for _, x := range asks() {
			x.Op = op
			holdBuild(t, x)
		}
	}
}

// asks are fields as some commands need them.
func asks() []Ask {
	return []Ask{{}, {Want: 24}, {Want: 24, Type: 1}, {Lba: 5, Blocks: 2}, {Lba: 5, Blocks: 2, Fua: true}, {Page: 300, Want: 36}}
}

// P15.2: all operations that are one by their first byte, with each field in turn set to each number.
func TestBuildEveryField(t *testing.T) {
	var l []int
	for _, first := range firsts {
		l = append(l, int(first))
		for action := range 9 {
			l = append(l, 256*int(first)+action)
		}
	}
	for _, op := range l {
		for _, base := range asks() {
			base.Op = op
			for _, n := range edges() {
				for field := range 6 {
					x := base
					set(&x, field, n)
					holdBuild(t, x)
				}
			}
		}
	}
}

// set sets one of the six fields behind Op.
func set(x *Ask, field, n int) {
	switch field {
	case 0:
		x.Lba = n
	case 1:
		x.Blocks = n
	case 2:
		x.Page = n
	case 3:
		x.Want = n
	case 4:
		x.Type = n
	case 5:
		x.Fua = !x.Fua
	}
}

// P15.2: what blocks ask, with any two fields set to any number.
func TestBuildTwoFields(t *testing.T) {
	r := rand.New(rand.NewSource(16))
	l := edges()
	for _, s := range bases() {
		base, ok := modelParse(s)
		if !ok {
			t.Fatalf("%x is no block", s)
		}
		for range 4000 {
			x := base
			set(&x, r.Intn(6), l[r.Intn(len(l))])
			set(&x, r.Intn(6), l[r.Intn(len(l))])
			holdBuild(t, x)
		}
	}
}

// P15.2: Asks that no block asks, each for one reason.
func TestBuildRefused(t *testing.T) {
	for _, x := range []Ask{
		{Op: 1}, {Op: -1}, {Op: 0x5e}, {Op: 0x5f, Want: 24}, {Op: 256 * 0x12}, {Op: 256 * 0x28}, {Op: 256*0x5e + 2}, {Op: 256*0x5e + 32}, {Op: 256*0x5f + 5, Want: 24}, {Op: 256*0x5f + 7, Want: 24}, {Op: 256*0x5f + 32, Want: 24}, {Op: 256*256 + 0x28},
		{Lba: 1}, {Blocks: 1}, {Fua: true}, {Page: 256}, {Want: 1}, {Type: 1},
		{Op: 0x12, Page: 1}, {Op: 0x12, Page: 255}, {Op: 0x12, Page: 512}, {Op: 0x12, Page: -1}, {Op: 0x12, Want: 1 << 16}, {Op: 0x12, Want: -1},
		{Op: 0x25, Page: 256}, {Op: 0x25, Type: 1}, {Op: 0x35, Lba: 1}, {Op: 0x42, Want: 1 << 16}, {Op: 0x42, Type: 1},
		{Op: 0x28, Lba: 1 << 32}, {Op: 0x28, Lba: -1}, {Op: 0x28, Blocks: 1 << 16}, {Op: 0x28, Blocks: -1}, {Op: 0x28, Fua: true}, {Op: 0x28, Want: 1},
		{Op: 0x88, Lba: 1 << 31}, {Op: 0x88, Blocks: 1 << 31}, {Op: 0x88, Lba: -1}, {Op: 0x88, Blocks: -1}, {Op: 0x88, Fua: true},
		{Op: 0x2a, Lba: 1 << 32}, {Op: 0x2a, Blocks: 1 << 16}, {Op: 0x8a, Lba: 1 << 31}, {Op: 0x8a, Blocks: 1 << 31},
		{Op: 0x89, Lba: 1 << 31}, {Op: 0x89, Blocks: 256}, {Op: 0x89, Blocks: -1}, {Op: 0x89, Fua: true},
		{Op: 0x93, Lba: 1 << 31}, {Op: 0x93, Blocks: 1 << 31}, {Op: 0x93, Fua: true},
		{Op: 256 * 0x5e, Want: 1 << 16}, {Op: 256*0x5e + 1, Type: 1}, {Op: 256 * 0x5e, Want: 24, Page: 256},
		{Op: 256 * 0x5f}, {Op: 256 * 0x5f, Want: 23}, {Op: 256 * 0x5f, Want: 25}, {Op: 256 * 0x5f, Want: 24 + 1<<32}, {Op: 256 * 0x5f, Want: 24, Type: 1}, {Op: 256*0x5f + 6, Want: 24, Type: 6},
		{Op: 256*0x5f + 1, Want: 24}, {Op: 256*0x5f + 2, Want: 24, Type: 7}, {Op: 256*0x5f + 4, Want: 24, Type: -1}, {Op: 256*0x5f + 1, Want: 24, Type: 8}, {Op: 256*0x5f + 1, Type: 1},
		{Op: 0xa0, Want: 1 << 32}, {Op: 0xa0, Want: -1}, {Op: 0xa0, Blocks: 1},
	} {
		if got, err := Build(x); got != "" || err != api.ErrCdb {
			t.Errorf("Build(%+v): %x, %v", x, got, err)
		}
	}
}

// P15.2, P15.3: the least and the greatest numbers that each field takes, and each bit of them.
func TestBuildEnds(t *testing.T) {
	for _, x := range []struct{ op, lba, blocks int }{
		{0x28, 32, 16}, {0x2a, 32, 16}, {0x88, 31, 31}, {0x8a, 31, 31}, {0x89, 31, 8}, {0x93, 31, 31},
	} {
		for bit := 0; bit < x.lba; bit++ {
			holdBuilt(t, Ask{Op: x.op, Lba: 1 << bit})
		}
		for bit := 0; bit < x.blocks; bit++ {
			holdBuilt(t, Ask{Op: x.op, Blocks: 1 << bit})
		}
		holdBuilt(t, Ask{Op: x.op})
		holdBuilt(t, Ask{Op: x.op, Lba: 1<<x.lba - 1, Blocks: 1<<x.blocks - 1})
	}
	for op, want := range map[int]int{0x12: 16, 0x42: 16, 0x5e00: 16, 0x5e01: 16, 0xa0: 32} {
		for bit := 0; bit < want; bit++ {
			holdBuilt(t, Ask{Op: op, Want: 1 << bit})
		}
		holdBuilt(t, Ask{Op: op, Want: 1<<want - 1})
	}
	for page := range 256 {
		holdBuilt(t, Ask{Op: 0x12, Page: 256 + page, Want: 0xa5})
	}
}

// holdBuilt is holdBuild of an x that a block asks.
func holdBuilt(t *testing.T, x Ask) {
	t.Helper()
	if _, err := Build(x); err != api.OK {
		t.Errorf("Build(%+v): %v", x, err)
	}
	holdBuild(t, x)
}
