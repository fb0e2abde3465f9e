package ipdu

import (
	"math"
	"math/rand"
	"strings"
	"testing"
	"unsafe"

	"headgate/api"
)

// Where the chapter's numbers have their ends, and far from them.
var around = []int{
	math.MinInt, math.MinInt + 1, math.MinInt + 16, math.MinInt32, -65, -64, -63, -4, -3, -2, -1, 0, 1, 15, 16, 17, 43, 44, 45, 46, 47, 48, 49,
	63, 64, 65, 127, 128, 255, 256, 257, 1<<16 + 5, 1 << 31, 1<<32 - 1, 1 << 32, 1<<32 + 16, 1<<62 + 3, math.MaxInt - 48, math.MaxInt - 4,
	math.MaxInt - 3, math.MaxInt - 2, math.MaxInt - 1, math.MaxInt,
}

var words = []uint32{0, 1, 0x01020304, 0x7fffffff, 0x80000000, 0xfedcba98, 0xffffffff}

// lengths are those of Data at both sides of each multiple and of the ends.
var lengths = []int{0, 1, 2, 3, 4, 5, 6, 7, 8, 9, 255, 256, 257, 511, 512, 513, 4095, 4096, 4097, 8188, 8189, 8190, 8191, 8192}

// noise is n bytes that look like no rule, the same ones each time.
func noise(n int) string { return drawn(rand.New(rand.NewSource(int64(n)+20)), n) }

func drawn(r *rand.Rand, n int) string {
	b := make([]byte, n)
	r.Read(b)
	return string(b)
}

// filled is a head of a message in which each byte that may be is not 0, with bytes 5 to 7 that are no length.
const filled = "\x7a\x01\x02\x03\x00\xff\xfe\xfd\x08\x09\x0a\x0b\x0c\x0d\x0e\x0f\x10\x11\x12\x13\x14\x15\x16\x17" +
	"\x18\x19\x1a\x1b\x1c\x1d\x1e\x1f\x20\x21\x22\x23\x24\x25\x26\x27\x28\x29\x2a\x2b\x2c\x2d\x2e\xff"

// turned is s with the byte with the index at changed in the bits of by.
func turned(s string, at int, by byte) string {
	b := []byte(s)
	b[at] ^= by
	return string(b)
}

// replaced is s with the byte with the index at replaced.
func replaced(s string, at int, by byte) string { return turned(s, at, s[at]^by) }

// each calls f with all choices of digests.
func each(f func(heads, datas bool)) {
	for n := range 4 {
		f(n%2 == 1, n >= 2)
	}
}

// encoded is the encoding of a message with this head and this data.
func encoded(t *testing.T, p api.Pdu, heads, datas bool) string {
	t.Helper()
	s, err := Put(p, heads, datas)
	if err != api.OK {
		t.Fatalf("Put(%x, %d bytes, %v, %v): %v", p.Head, len(p.Data), heads, datas, err)
	}
	return s
}

// holdPut holds Put of p against the chapter's words, and Get of what it returns.
func holdPut(t *testing.T, p api.Pdu, heads, datas bool) {
	t.Helper()
	want, as, ok := modelPut(p, heads, datas)
	got, err := Put(p, heads, datas)
	if !ok {
		if got != "" || err != api.ErrPdu {
			t.Fatalf("Put(%x, %d bytes, %v, %v): %d bytes, %v, though it is no message", p.Head, len(p.Data), heads, datas, len(got), err)
		}
		return
	}
	if got != want || err != api.OK {
		t.Fatalf("Put(%x, %d bytes, %v, %v): %x, %v, not %x", p.Head, len(p.Data), heads, datas, got, err, want)
	}
	for _, behind := range []string{"", "\x00", "abc", got, strings.Repeat("\xff", 60)} {
		if back, size, err := Get(got+behind, heads, datas); back != as || size != len(got) || err != api.OK {
			t.Fatalf("Get(%x and %d bytes, %v, %v): %x, %d bytes, %d, %v", got, len(behind), heads, datas, back.Head, len(back.Data), size, err)
		}
	}
}

// holdGet holds Get of s against the chapter's words.
func holdGet(t *testing.T, s string, heads, datas bool) {
	t.Helper()
	want, wantSize, wantErr := modelGet(s, heads, datas)
	got, size, err := Get(s, heads, datas)
	if got != want || size != wantSize || err != wantErr {
		t.Fatalf("Get(%x, %v, %v): %x, %d bytes, %d, %v, not %x, %d bytes, %d, %v",
			s, heads, datas, got.Head, len(got.Data), size, err, want.Head, len(want.Data), wantSize, wantErr)
	}
}

// wantGet wants that Get of s is this.
func wantGet(t *testing.T, what, s string, heads, datas bool, p api.Pdu, size int, e api.Errno) {
	t.Helper()
	if got, gotSize, err := Get(s, heads, datas); got != p || gotSize != size || err != e {
		t.Errorf("%s: %x, %d bytes, %d, %v; want %x, %d bytes, %d, %v", what, got.Head, len(got.Data), gotSize, err, p.Head, len(p.Data), size, e)
	}
}

// The chapter's example.
func TestExample(t *testing.T) {
	for _, datas := range []bool{false, true} {
		if s, err := Put(api.Pdu{Head: Head(0, true, 128, 7)}, true, datas); len(s) != 52 || err != api.OK {
			t.Error(len(s), err)
		}
	}
}

// P20.1: heads, written out.
func TestHeadsWritten(t *testing.T) {
	for _, x := range []struct {
		kind   int
		urgent bool
		flags  int
		tag    uint32
		want   string
	}{
		{0, false, 0, 0, zeros(48)},
		{0, true, 128, 7, "\x40\x80" + zeros(17) + "\x07" + zeros(28)},
		{1, false, 0xe1, 0x01020304, "\x01\xe1" + zeros(14) + "\x01\x02\x03\x04" + zeros(28)},
		{63, true, 255, 0xffffffff, "\x7f\xff" + zeros(14) + "\xff\xff\xff\xff" + zeros(28)},
		{64, false, 256, 0x80000000, zeros(16) + "\x80" + zeros(31)},
		{128 + 33, true, 512 + 3, 1, "\x61\x03" + zeros(17) + "\x01" + zeros(28)},
		{-1, false, -1, 0, "\x3f\xff" + zeros(46)},
		{-64, true, -256, 0, "\x40" + zeros(47)},
		{math.MinInt, false, math.MaxInt, 0, "\x00\xff" + zeros(46)},
		{math.MaxInt, false, math.MinInt, 0, "\x3f" + zeros(47)},
	} {
		if got := Head(x.kind, x.urgent, x.flags, x.tag); got != x.want {
			t.Errorf("Head(%d, %v, %d, %d): %x", x.kind, x.urgent, x.flags, x.tag, got)
		}
	}
}

// P20.1: heads of all kinds and flags, and of numbers at each edge, and what Kind, Tag and Num tell of them.
func TestHeads(t *testing.T) {
	numbers := append([]int{}, around...)
	for n := -300; n < 600; n++ {
		numbers = append(numbers, n)
	}
	hold := func(kind int, urgent bool, flags int, tag uint32) {
		got, want := Head(kind, urgent, flags, tag), modelHead(kind, urgent, flags, tag)
		if got != want {
			t.Fatalf("Head(%d, %v, %d, %d): %x, not %x", kind, urgent, flags, tag, got, want)
		}
		p := api.Pdu{Head: got}
		if k, u := Kind(p); k != (kind%64+64)%64 || u != urgent || Tag(p) != tag || Num(p, 16) != tag {
			t.Fatalf("of %x: %d, %v, %d", got, k, u, Tag(p))
		}
	}
	for _, n := range numbers {
		for _, urgent := range []bool{false, true} {
			for _, tag := range words {
				hold(n, urgent, 0x55, tag)
				hold(0x2a, urgent, n, tag)
				hold(n, urgent, n, tag)
			}
		}
	}
	for bit := range 32 {
		hold(1, false, 2, 1<<bit)
	}
}

// P20.1: Kind of all first bytes, whatever follows them.
func TestKinds(t *testing.T) {
	for b := range 256 {
		for _, behind := range []string{"", "\xff", filled[1:], zeros(47), noise(100)} {
			p := api.Pdu{Head: string([]byte{byte(b)}) + behind, Data: "data"}
			if kind, urgent := Kind(p); kind != b&63 || urgent != (b&64 != 0) {
				t.Errorf("Kind of %02x and %d bytes: %d, %v", b, len(behind), kind, urgent)
			}
		}
	}
	if kind, urgent := Kind(api.Pdu{Data: "\x7f"}); kind != 0 || urgent {
		t.Error(kind, urgent)
	}
}

// P20.1: the numbers of heads of all lengths at all places.
func TestNums(t *testing.T) {
	for _, long := range []string{noise(100), filled + filled, strings.Repeat("\xff", 100)} {
		for n := range long {
			p := api.Pdu{Head: long[:n], Data: long}
			if got, want := Tag(p), modelNum(p.Head, 16); got != want {
				t.Fatalf("Tag of %x: %d, not %d", p.Head, got, want)
			}
			kind, urgent := Kind(p)
			if k, u := modelKind(p.Head); kind != k || urgent != u {
				t.Fatalf("Kind of %x: %d, %v, not %d, %v", p.Head, kind, urgent, k, u)
			}
			for at := -10; at < 110; at++ {
				if got, want := Num(p, at), modelNum(p.Head, at); got != want {
					t.Fatalf("Num of %x, %d: %d, not %d", p.Head, at, got, want)
				}
			}
			for _, at := range around {
				if got, want := Num(p, at), modelNum(p.Head, at); got != want {
					t.Fatalf("Num of %x, %d: %d, not %d", p.Head, at, got, want)
				}
			}
		}
	}
}

// P20.1: With, written out.
func TestWithWritten(t *testing.T) {
	p := api.Pdu{Head: filled, Data: "data"}
	for _, x := range []struct {
		at   int
		v    uint32
		want string
	}{
		{0, 0x01020304, "\x01\x02\x03\x04" + filled[4:]},
		{20, 0xfedcba98, filled[:20] + "\xfe\xdc\xba\x98" + filled[24:]},
		{44, 7, filled[:44] + "\x00\x00\x00\x07"},
		{45, 7, filled}, {48, 7, filled}, {-1, 7, filled}, {-4, 7, filled}, {math.MaxInt, 7, filled}, {math.MinInt, 7, filled},
	} {
		if got := With(p, x.at, x.v); got != (api.Pdu{Head: x.want, Data: "data"}) {
			t.Errorf("With(%d, %d): %x, %q", x.at, x.v, got.Head, got.Data)
		}
	}
	if p != (api.Pdu{Head: filled, Data: "data"}) {
		t.Error("With has changed what it was given")
	}
	if got := With(api.Pdu{}, 0, 1); got != (api.Pdu{}) {
		t.Error(got)
	}
}

// P20.1: With of heads of all lengths at all places, and Num of what it returns.
func TestWith(t *testing.T) {
	long := noise(100)
	for n := range long {
		for _, data := range []string{"", "d", long} {
			p := api.Pdu{Head: long[:n], Data: data}
			hold := func(at int, v uint32) {
				got, want := With(p, at, v), modelWith(p, at, v)
				if got != want {
					t.Fatalf("With(%x, %d, %d): %x, %d bytes, not %x", p.Head, at, v, got.Head, len(got.Data), want.Head)
				}
				if modelHas(p.Head, at) && Num(got, at) != v {
					t.Fatalf("Num of With(%x, %d, %d): %d", p.Head, at, v, Num(got, at))
				}
			}
			for at := -10; at < 110; at++ {
				hold(at, words[(at+10)%len(words)])
			}
			for _, at := range around {
				hold(at, 0x01020304)
			}
		}
	}
}

// P20.2: encodings, written out byte by byte, with digests that were computed elsewhere.
func TestEncodingsWritten(t *testing.T) {
	head := Head(5, false, 3, 9)
	long := head[:5] + "\x00\x00\x05" + head[8:]
	for i, x := range []struct {
		p            api.Pdu
		heads, datas bool
		want         string
	}{
		{api.Pdu{Head: head}, false, false, head},
		{api.Pdu{Head: head}, false, true, head},
		{api.Pdu{Head: head}, true, false, head + modelDigest(head)},
		{api.Pdu{Head: head}, true, true, head + modelDigest(head)},
		{api.Pdu{Head: head, Data: "data!"}, false, false, long + "data!\x00\x00\x00"},
		{api.Pdu{Head: head, Data: "data!"}, true, false, long + modelDigest(long) + "data!\x00\x00\x00"},
		{api.Pdu{Head: head, Data: "data!"}, false, true, long + "data!\x00\x00\x00" + modelDigest("data!\x00\x00\x00")},
		{api.Pdu{Head: head, Data: "data!"}, true, true, long + modelDigest(long) + "data!\x00\x00\x00" + modelDigest("data!\x00\x00\x00")},
		{api.Pdu{Head: zeros(48), Data: zeros(32)}, false, true, zeros(7) + "\x20" + zeros(40) + zeros(32) + "\xaa\x36\x91\x8a"},
	} {
		if got, err := Put(x.p, x.heads, x.datas); got != x.want || err != api.OK {
			t.Errorf("%d: %x, %v", i, got, err)
		}
		wantGet(t, "back", x.want, x.heads, x.datas, api.Pdu{Head: x.want[:48], Data: x.p.Data}, len(x.want), api.OK)
	}
}

// P20.2, P20.3: messages with Data of all small lengths and those at the edges, with all digests.
func TestData(t *testing.T) {
	each(func(heads, datas bool) {
		for _, n := range lengths {
			for _, data := range []string{noise(n), zeros(n), strings.Repeat("\xff", n)} {
				holdPut(t, api.Pdu{Head: filled, Data: data}, heads, datas)
				holdPut(t, api.Pdu{Head: zeros(48), Data: data}, heads, datas)
			}
		}
		for n := range 70 {
			holdPut(t, api.Pdu{Head: Head(n, n%3 == 0, n, uint32(n)), Data: noise(n)}, heads, datas)
		}
	})
}

// P20.2: Data that is too long, also such whose length would be right if it lost some of its bits.
func TestTooLong(t *testing.T) {
	each(func(heads, datas bool) {
		for _, n := range []int{8193, 8194, 8196, 16384, 1 << 16, 1<<16 + 1, 1 << 24, 1<<24 + 1, 1<<24 + 8192} {
			if s, err := Put(api.Pdu{Head: Head(1, false, 0, 0), Data: zeros(n)}, heads, datas); s != "" || err != api.ErrPdu {
				t.Errorf("Put of %d bytes: %d, %v", n, len(s), err)
			}
		}
	})
}

// P20.2: heads of messages of all lengths but the right one.
func TestHeadLengths(t *testing.T) {
	long := filled + zeros(100)
	each(func(heads, datas bool) {
		for n := range long {
			holdPut(t, api.Pdu{Head: long[:n]}, heads, datas)
			holdPut(t, api.Pdu{Head: long[:n], Data: "data"}, heads, datas)
		}
		for n := range 100 {
			holdPut(t, api.Pdu{Head: zeros(n)}, heads, datas)
		}
		holdPut(t, api.Pdu{}, heads, datas)
		holdPut(t, api.Pdu{Data: filled}, heads, datas)
	})
}

// P20.2: each byte of the head of a message replaced by all others.
func TestHeadBytes(t *testing.T) {
	each(func(heads, datas bool) {
		for _, head := range []string{filled, zeros(48)} {
			for at := range head {
				for b := range 256 {
					holdPut(t, api.Pdu{Head: replaced(head, at, byte(b)), Data: "data!"}, heads, datas)
				}
			}
		}
	})
}

// P20.2: what stands in bytes 5 to 7 of what is put does not matter.
func TestLengthIgnored(t *testing.T) {
	each(func(heads, datas bool) {
		want := encoded(t, api.Pdu{Head: Head(1, false, 0, 0), Data: "data!"}, heads, datas)
		for _, length := range []string{"\x00\x00\x00", "\x00\x00\x05", "\x00\x20\x00", "\x00\x20\x01", "\xff\xff\xff"} {
			head := Head(1, false, 0, 0)
			p := api.Pdu{Head: head[:5] + length + head[8:], Data: "data!"}
			if got := encoded(t, p, heads, datas); got != want {
				t.Errorf("with %x: %x, not %x", length, got, want)
			}
		}
	})
}

// P20.4: all proper prefixes of encodings.
func TestPrefixes(t *testing.T) {
	each(func(heads, datas bool) {
		for _, n := range []int{0, 1, 2, 3, 4, 5, 63, 64, 65, 512, 8189, 8192} {
			s := encoded(t, api.Pdu{Head: filled, Data: noise(n)}, heads, datas)
			for cut := range s {
				if p, size, err := Get(s[:cut], heads, datas); p != (api.Pdu{}) || size != 0 || err != api.OK {
					t.Fatalf("%d of %d bytes: %x, %d bytes, %d, %v", cut, len(s), p.Head, len(p.Data), size, err)
				}
			}
		}
	})
}

// P20.2: each byte of encodings replaced by all others, whole and cut off at each place that matters.
func TestEveryByte(t *testing.T) {
	each(func(heads, datas bool) {
		for _, n := range []int{0, 1, 4, 7} {
			for _, head := range []string{filled, Head(1, false, 0, 0)} {
				s := encoded(t, api.Pdu{Head: head, Data: noise(n)}, heads, datas)
				for at := range s {
					for b := range 256 {
						x := replaced(s, at, byte(b))
						holdGet(t, x, heads, datas)
						holdGet(t, x+"more", heads, datas)
						for _, cut := range []int{47, 48, 51, 52, len(s) - 1} {
							if cut < len(s) {
								holdGet(t, x[:cut], heads, datas)
							}
						}
					}
				}
			}
		}
	})
}

// P20.2: encodings read with other digests than those that they were put with.
func TestOtherDigests(t *testing.T) {
	each(func(heads, datas bool) {
		for _, n := range []int{0, 1, 4, 5, 8, 100} {
			s := encoded(t, api.Pdu{Head: filled, Data: noise(n)}, heads, datas)
			each(func(heads, datas bool) {
				long := s + noise(60)
				for cut := range long {
					holdGet(t, long[:cut], heads, datas)
				}
			})
		}
	})
}

// resealed is the head with the digest that it asks for, if there are head digests.
func resealed(head string, heads bool) string {
	if heads {
		return head + modelDigest(head)
	}
	return head
}

// P20.2: all first bytes, all fifth ones, and lengths at each edge, under a right digest.
func TestHeadsRead(t *testing.T) {
	each(func(heads, datas bool) {
		hold := func(head string) {
			s := resealed(head, heads)
			holdGet(t, s, heads, datas)
			for _, behind := range []string{"\x00", zeros(3), "data", zeros(8), noise(9000)} {
				holdGet(t, s+behind, heads, datas)
			}
		}
		for b := range 256 {
			for at := range 8 {
				hold(replaced(zeros(48), at, byte(b)))
			}
		}
		for _, n := range append([]int{8193, 8194, 8195, 8196, 8448, 16384, 1 << 16, 1<<16 + 4, 1 << 23, 1<<24 - 1}, lengths...) {
			hold(filled[:5] + modelLength(n) + filled[8:])
		}
	})
}

// P20.2: as soon as 48 bytes are there, and no sooner, it is told that they are not the head of a message.
func TestNoHead(t *testing.T) {
	none := api.Pdu{}
	for _, head := range []string{
		"\x80" + zeros(47), "\xff" + filled[1:], zeros(4) + "\x01" + zeros(43), zeros(4) + "\x80" + zeros(43),
		zeros(6) + "\x20\x01" + zeros(40), zeros(5) + "\x01" + zeros(42), zeros(5) + "\xff\xff\xff" + zeros(40),
	} {
		each(func(heads, datas bool) {
			for cut := range head {
				wantGet(t, "cut off", head[:cut], heads, datas, none, 0, api.OK)
			}
			wantGet(t, "head", head, heads, datas, none, 0, api.ErrPdu)
			wantGet(t, "with less than a digest", head+"\x01\x02\x03", heads, datas, none, 0, api.ErrPdu)
			wantGet(t, "with its digest", resealed(head, heads), heads, datas, none, 0, api.ErrPdu)
			wantGet(t, "with all", resealed(head, heads)+zeros(9000), heads, datas, none, 0, api.ErrPdu)
		})
		// A wrong digest is told first.
		for _, datas := range []bool{false, true} {
			wantGet(t, "wrong digest", head+turned(modelDigest(head), 3, 1), true, datas, none, 0, api.ErrDigest)
			wantGet(t, "wrong digest and more", head+turned(modelDigest(head), 0, 128)+zeros(9000), true, datas, none, 0, api.ErrDigest)
		}
	}
}

// P20.2: a wrong head digest is told once it is there as a whole, whatever else is there.
func TestHeadDigest(t *testing.T) {
	for _, n := range []int{0, 1, 100} {
		for _, datas := range []bool{false, true} {
			s := encoded(t, api.Pdu{Head: filled, Data: noise(n)}, true, datas)
			for at := range 52 {
				for bit := range 8 {
					x := turned(s, at, 1<<bit)
					wantGet(t, "digest", x[:52], true, datas, api.Pdu{}, 0, api.ErrDigest)
					wantGet(t, "whole", x, true, datas, api.Pdu{}, 0, api.ErrDigest)
					wantGet(t, "more", x+"more", true, datas, api.Pdu{}, 0, api.ErrDigest)
					wantGet(t, "first bytes", x[:47], true, datas, api.Pdu{}, 0, api.OK)
					if at >= 48 {
						wantGet(t, "cut off", x[:51], true, datas, api.Pdu{}, 0, api.OK)
					}
				}
			}
		}
	}
}

// P20.2: a wrong data digest is told together with the message, once it is there as a whole.
func TestDataDigest(t *testing.T) {
	for _, heads := range []bool{false, true} {
		for _, n := range []int{1, 2, 3, 4, 5, 100} {
			data := noise(n)
			s := encoded(t, api.Pdu{Head: filled, Data: data}, heads, true)
			from := len(resealed(filled, heads))
			for at := from; at < len(s); at++ {
				for bit := range 8 {
					x := turned(s, at, 1<<bit)
					p := api.Pdu{Head: s[:48], Data: x[from : from+n]}
					wantGet(t, "whole", x, heads, true, p, len(s), api.ErrSum)
					wantGet(t, "more", x+"more", heads, true, p, len(s), api.ErrSum)
					wantGet(t, "cut off", x[:len(s)-1], heads, true, api.Pdu{}, 0, api.OK)
					if heads {
						wantGet(t, "both wrong", turned(x, 1, 1), heads, true, api.Pdu{}, 0, api.ErrDigest)
					}
				}
			}
		}
		// Data that is empty has no digest, so what follows it is not asked.
		s := encoded(t, api.Pdu{Head: filled}, heads, true)
		wantGet(t, "empty", s+"\xff\xff\xff\xff", heads, true, api.Pdu{Head: s[:48]}, len(s), api.OK)
	}
}

// P20.2: the padding is not examined without a digest, and with one that is right for it neither.
func TestPadding(t *testing.T) {
	for _, heads := range []bool{false, true} {
		for n := 1; n < 12; n++ {
			data := noise(n)
			s := encoded(t, api.Pdu{Head: filled, Data: data}, heads, false)
			from := len(resealed(filled, heads))
			padded := data + "\xff\x01\x80"[:(4-n%4)%4]
			p := api.Pdu{Head: s[:48], Data: data}
			x := s[:from] + padded
			wantGet(t, "no digest", x, heads, false, p, len(x), api.OK)
			wantGet(t, "right digest", x+modelDigest(padded), heads, true, p, len(x)+4, api.OK)
			if n%4 != 0 {
				wantGet(t, "digest of zeros", x+modelDigest(s[from:]), heads, true, p, len(x)+4, api.ErrSum)
				wantGet(t, "digest of data", x+modelDigest(data), heads, true, p, len(x)+4, api.ErrSum)
			}
		}
	}
}

// P20.2, P20.3: messages and bytes as they come.
func TestRandom(t *testing.T) {
	r := rand.New(rand.NewSource(20))
	counts := map[api.Errno]int{}
	for range 100000 {
		head := []byte(drawn(r, 48))
		head[0] &= 127
		head[4] = 0
		if r.Intn(8) == 0 {
			head[r.Intn(2)*4] ^= 1 << r.Intn(8)
		}
		p := api.Pdu{Head: string(head), Data: drawn(r, r.Intn(20))}
		heads, datas := r.Intn(2) == 0, r.Intn(2) == 0
		holdPut(t, p, heads, datas)
		s, _, _ := modelPut(p, heads, datas)
		if s == "" {
			s = string(head)
		}
		if r.Intn(3) == 0 {
			s = turned(s, r.Intn(len(s)), byte(1+r.Intn(255)))
		}
		if r.Intn(4) == 0 {
			s = s[:r.Intn(len(s)+1)]
		}
		s += drawn(r, r.Intn(3))
		holdGet(t, s, heads, datas)
		_, _, err := Get(s, heads, datas)
		counts[err]++
	}
	for _, err := range []api.Errno{api.OK, api.ErrPdu, api.ErrDigest, api.ErrSum} {
		if counts[err] < 1000 {
			t.Errorf("%v came %d times", err, counts[err])
		}
	}
}

// P20.3, P20.4: a row of messages is read one by one, however it is divided.
func TestRow(t *testing.T) {
	each(func(heads, datas bool) {
		var all string
		var want []api.Pdu
		for n := range 30 {
			p := api.Pdu{Head: Head(n, n%2 == 0, n, uint32(n)), Data: noise(n * n)}
			s, as, _ := modelPut(p, heads, datas)
			all += encoded(t, p, heads, datas)
			if len(s) == 0 {
				t.Fatal("no message")
			}
			want = append(want, as)
		}
		for _, step := range []int{1, 7, 48, 1000, len(all)} {
			held, rest, read := "", all, 0
			for rest != "" {
				n := min(step, len(rest))
				held, rest = held+rest[:n], rest[n:]
				for {
					p, size, err := Get(held, heads, datas)
					if err != api.OK {
						t.Fatalf("message %d: %v", read, err)
					}
					if size == 0 {
						break
					}
					if read == len(want) || p != want[read] {
						t.Fatalf("message %d: %x, %d bytes", read, p.Head, len(p.Data))
					}
					held, read = held[size:], read+1
				}
			}
			if read != len(want) || held != "" {
				t.Fatalf("%d messages, and %d bytes", read, len(held))
			}
		}
	})
}

// shares tells whether two texts share memory.
func shares(a, b string) bool {
	if a == "" || b == "" {
		return false
	}
	p, q := uintptr(unsafe.Pointer(unsafe.StringData(a))), uintptr(unsafe.Pointer(unsafe.StringData(b)))
	return p < q+uintptr(len(b)) && q < p+uintptr(len(a))
}

// No answer shares memory with an argument, nor with another part of it.
func TestMemory(t *testing.T) {
	p := api.Pdu{Head: strings.Clone(filled), Data: noise(64)}
	for at := range 45 {
		if q := With(p, at, 1); shares(q.Head, p.Head) || shares(q.Data, p.Data) || shares(q.Head, q.Data) {
			t.Errorf("With at %d shares memory", at)
		}
	}
	each(func(heads, datas bool) {
		for _, p := range []api.Pdu{p, {Head: p.Head}} {
			s := encoded(t, p, heads, datas)
			if shares(s, p.Head) || shares(s, p.Data) {
				t.Errorf("Put of %d bytes shares memory", len(p.Data))
			}
			for _, s := range []string{s, replaced(s, len(s)-1, ^s[len(s)-1])} {
				q, _, err := Get(s, heads, datas)
				if shares(q.Head, s) || shares(q.Data, s) || shares(q.Head, q.Data) {
					t.Errorf("Get of %d bytes (%v) shares memory", len(s), err)
				}
			}
		}
	})
	if a, b := Head(1, true, 2, 3), Head(1, true, 2, 3); shares(a, b) {
		t.Error("two heads share memory")
	}
}
