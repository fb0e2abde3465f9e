package frame

import (
	"encoding/binary"
	"hash/crc32"
	"math"
	"math/rand"
	"slices"
	"strings"
	"testing"
	"unsafe"

	"headgate/api"
)

// edges are lengths of texts around those at which a frame takes one more sector, and around the greatest one.
var edges = []int{0, 1, 2, 487, 488, 489, 999, 1000, 1001, 4096, 65511, 65512, 65513, 65535, 65536}

// noise is n bytes that look like no rule, the same ones each time.
func noise(n int) string {
	b := make([]byte, n)
	v := uint64(n) + 1
	for i := range b {
		v = v*6364136223846793005 + 1442695040888963407
		b[i] = byte(v >> 56)
	}
	return string(b)
}

func digest(s string) string {
	sum := crc32.Checksum([]byte(s), crc32.MakeTable(crc32.Castagnoli))
	return string(binary.LittleEndian.AppendUint32(nil, sum))
}

func head(mark string, n uint64, length uint32) string {
	return mark + string(binary.BigEndian.AppendUint32(binary.BigEndian.AppendUint64(nil, n), length))
}

// framed is a frame as the chapter's words tell it, whatever its text's length.
func framed(n uint64, text string) string {
	h := head("HGFR", n, uint32(len(text)))
	return padded(h + digest(h) + text + digest(text))
}

func padded(s string) string { return s + strings.Repeat("\x00", (512-len(s)%512)%512) }

// turned is s with its byte at changed in the bits of by.
func turned(s string, at int, by byte) string {
	b := []byte(s)
	b[at] ^= by
	return string(b)
}

func put(t *testing.T, n uint64, text string) string {
	t.Helper()
	s, err := Put(n, text)
	if err != api.OK {
		t.Fatalf("Put(%d, %d bytes): %v", n, len(text), err)
	}
	return s
}

func wantGot(t *testing.T, what, s string, n uint64, text string, size int) {
	t.Helper()
	gotN, gotText, gotSize, err := Get(s)
	if gotN != n || gotText != text || gotSize != size || err != api.OK {
		t.Errorf("%s: %d, %d bytes, %d, %v; want %d, %d bytes, %d", what, gotN, len(gotText), gotSize, err, n, len(text), size)
	}
}

func wantRefused(t *testing.T, what, s string, want api.Errno) {
	t.Helper()
	n, text, size, err := Get(s)
	if err != want {
		t.Errorf("%s: %v, want %v", what, err, want)
	}
	if err != api.OK && (n != 0 || text != "" || size != 0) {
		t.Errorf("%s: %d, %d bytes, %d beside an error", what, n, len(text), size)
	}
}

// P5.1: a frame's bytes, one by one.
func TestPutBytes(t *testing.T) {
	want := "HGFR" + "\x01\x02\x03\x04\x05\x06\x07\x08" + "\x00\x00\x00\x09" + "\x3e\x44\x1d\x53" + "123456789" + "\x83\x92\x06\xe3" + strings.Repeat("\x00", 479)
	if got := put(t, 0x0102030405060708, "123456789"); got != want {
		t.Errorf("%x", got[:48])
	}
	if got := put(t, 1, ""); len(got) != 512 || got[20:] != strings.Repeat("\x00", 492) {
		t.Errorf("%d bytes, %x", len(got), got[20:])
	}
}

// P5.1: frames of all numbers and of texts of all lengths to both sides of an edge.
func TestPut(t *testing.T) {
	for _, length := range edges {
		for _, n := range []uint64{0, 1, 255, 256, 1<<32 - 1, 1 << 32, 1<<63 + 5, math.MaxUint64} {
			text := noise(length)
			got := put(t, n, text)
			if got != framed(n, text) {
				t.Errorf("Put(%d, %d bytes): other bytes", n, length)
			}
			if len(got) != Sectors(length)*api.Sector {
				t.Errorf("Put(%d, %d bytes): %d bytes, not %d sectors", n, length, len(got), Sectors(length))
			}
		}
	}
	for _, text := range []string{"HGFR", strings.Repeat("\x00", 700), strings.Repeat("\xff", 700), framed(3, "inner")} {
		if got := put(t, 7, text); got != framed(7, text) {
			t.Errorf("Put of %d bytes: other bytes", len(text))
		}
	}
}

// P5.1: texts that are too long, by one byte and by many.
func TestPutLong(t *testing.T) {
	for _, length := range []int{api.MaxFrame + 1, api.MaxFrame + 512, 2 * api.MaxFrame, 1 << 20} {
		if s, err := Put(1, noise(length)); s != "" || err != api.ErrLong {
			t.Errorf("%d bytes: %d bytes, %v", length, len(s), err)
		}
	}
}

// P5.1: the sectors of every length that a text may have, and of those that it may not.
func TestSectors(t *testing.T) {
	for length := 0; length <= api.MaxFrame; length++ {
		got := Sectors(length)
		if got*512 < 20+length+4 || (got-1)*512 >= 20+length+4 {
			t.Fatalf("%d bytes: %d", length, got)
		}
	}
	for _, x := range []struct{ length, want int }{{0, 1}, {488, 1}, {489, 2}, {1000, 2}, {1001, 3}, {65512, 128}, {65513, 129}, {65536, 129}} {
		if got := Sectors(x.length); got != x.want {
			t.Errorf("%d bytes: %d, not %d", x.length, got, x.want)
		}
	}
	for _, length := range []int{-1, -24, -512, math.MinInt, api.MaxFrame + 1, 1 << 32, 1<<32 + 1, math.MaxInt - 24, math.MaxInt} {
		if got := Sectors(length); got != 0 {
			t.Errorf("%d bytes: %d", length, got)
		}
	}
}

// P5.2, P5.4: what was put is got, whatever stands behind it.
func TestGet(t *testing.T) {
	for _, length := range edges {
		for _, n := range []uint64{0, 1, 1 << 32, 1<<63 + 5, math.MaxUint64} {
			text := noise(length)
			s := put(t, n, text)
			for _, behind := range []string{"", "\x00", "y", "HGFR", s, noise(1000)} {
				wantGot(t, "put", s+behind, n, text, len(s))
			}
			wantGot(t, "framed", framed(n, text), n, text, len(s))
		}
	}
}

// P5.4: texts of all lengths up to three sectors.
func TestBack(t *testing.T) {
	for length := range 1600 {
		text := noise(length)
		s := put(t, uint64(length)<<40, text)
		wantGot(t, "put", s, uint64(length)<<40, text, len(s))
	}
	for _, text := range []string{"\x00", strings.Repeat("\x00", 488), strings.Repeat("\x00", 489), strings.Repeat("\xff", 489), put(t, 1, "inner")} {
		s := put(t, 9, text)
		wantGot(t, "put", s, 9, text, len(s))
	}
}

// P5.2: frames that stand one behind the other are got one by one by their sizes.
func TestGetOneByOne(t *testing.T) {
	var s string
	lengths := []int{0, 488, 489, 3, 5000, 1}
	for i, length := range lengths {
		s += put(t, uint64(i), noise(length))
	}
	for i, length := range lengths {
		n, text, size, err := Get(s)
		if n != uint64(i) || text != noise(length) || size != Sectors(length)*512 || err != api.OK {
			t.Fatalf("frame %d: %d, %d bytes, %d, %v", i, n, len(text), size, err)
		}
		s = s[size:]
	}
	wantRefused(t, "behind all", s, api.ErrFrame)
}

// P5.2, P5.5: each byte of a frame changed alone: which error tells where it stands.
func TestGetChanged(t *testing.T) {
	for _, length := range []int{0, 1, 9, 488, 489, 600} {
		s := put(t, 7, noise(length))
		for i := range s {
			want := api.ErrSum
			if i < 4 || i >= 24+length {
				want = api.ErrFrame
			}
			for _, by := range []byte{1, 2, 0x80, 0xff} {
				wantRefused(t, "changed", turned(s, i, by), want)
			}
		}
	}
}

// P5.5: every change of one byte of a text.
func TestTextChanged(t *testing.T) {
	for _, text := range []string{"a", "some text", strings.Repeat("\x00", 30), noise(490)} {
		s := put(t, 7, text)
		for i := range text {
			for by := 1; by < 256; by++ {
				wantRefused(t, "text", turned(s, 20+i, byte(by)), api.ErrSum)
			}
		}
	}
	s := put(t, 7, noise(api.MaxFrame))
	for i := 0; i < api.MaxFrame; i += 997 {
		wantRefused(t, "long text", turned(s, 20+i, 0x10), api.ErrSum)
	}
	wantRefused(t, "last byte", turned(s, 20+api.MaxFrame-1, 1), api.ErrSum)
}

// P5.2: every beginning of a frame is none, though all but its padding may be there.
func TestGetCutOff(t *testing.T) {
	for _, length := range []int{0, 9, 488, 489} {
		s := put(t, 7, noise(length))
		for i := range s {
			wantRefused(t, "cut off", s[:i], api.ErrFrame)
		}
	}
	long := put(t, 7, noise(api.MaxFrame))
	for _, i := range []int{20, 512, len(long) - 512, len(long) - 1} {
		wantRefused(t, "cut off", long[:i], api.ErrFrame)
	}
}

// P5.2: a mark that is wrong comes before all else, with a digest that is right or wrong.
func TestGetMark(t *testing.T) {
	for _, mark := range []string{"HGFS", "hgfr", "RFGH", "\x00\x00\x00\x00", "XHGF"} {
		h := head(mark, 1, 0)
		wantRefused(t, mark, padded(h+digest(h)), api.ErrFrame)
		wantRefused(t, mark, padded(h+"abcd"), api.ErrFrame)
		wantRefused(t, mark, h[:10], api.ErrFrame)
	}
	wantRefused(t, "moved by one byte", "x"+put(t, 1, ""), api.ErrFrame)
	wantRefused(t, "nothing", "", api.ErrFrame)
	wantRefused(t, "zeros", strings.Repeat("\x00", 512), api.ErrFrame)
	wantRefused(t, "mark alone", "HGFR", api.ErrFrame)
}

// P5.2: with fewer than 20 bytes nothing is asked of a digest; with 20 it comes before what is missing.
func TestGetHeadDigest(t *testing.T) {
	h := head("HGFR", 1, 5)
	for i := range 20 {
		wantRefused(t, "short", (h + "abcd")[:i], api.ErrFrame)
	}
	wantRefused(t, "digest wrong, cut off", h+"abcd", api.ErrSum)
	wantRefused(t, "digest right, cut off", h+digest(h), api.ErrFrame)
	d := digest(h)
	wantRefused(t, "digest turned round", padded(h+string([]byte{d[3], d[2], d[1], d[0]})+"12345"+digest("12345")), api.ErrSum)
	big := head("HGFR", 1, api.MaxFrame+1)
	wantRefused(t, "digest wrong, length too great", big+"abcd", api.ErrSum)
}

// P5.2: a length that is too great, also if all of it is there, and right.
func TestGetLong(t *testing.T) {
	wantRefused(t, "one byte too long", framed(1, noise(api.MaxFrame+1)), api.ErrFrame)
	wantRefused(t, "much too long", framed(1, noise(3*api.MaxFrame)), api.ErrFrame)
	wantRefused(t, "too long, digest wrong", turned(framed(1, noise(api.MaxFrame+1)), 100, 1), api.ErrFrame)
	for _, length := range []uint32{api.MaxFrame + 1, 1<<31 - 1, 1 << 31, math.MaxUint32 - 24, math.MaxUint32 - 3, math.MaxUint32} {
		h := head("HGFR", 1, length)
		wantRefused(t, "length", h+digest(h), api.ErrFrame)
		wantRefused(t, "length", padded(h+digest(h)+noise(600)), api.ErrFrame)
	}
}

// P5.2: a text's digest is asked once the last sector is there, and before the padding.
func TestGetTextDigest(t *testing.T) {
	for _, length := range []int{0, 9, 487, 489} {
		s := put(t, 7, noise(length))
		wrong := turned(s, 20+length, 1)
		wantRefused(t, "digest wrong", wrong, api.ErrSum)
		wantRefused(t, "digest wrong, cut off", wrong[:len(s)-1], api.ErrFrame)
		wantRefused(t, "digest wrong, padding wrong", turned(wrong, len(s)-1, 1), api.ErrSum)
		wantRefused(t, "padding wrong, cut off", turned(s, 24+length, 1)[:len(s)-1], api.ErrFrame)
		wantRefused(t, "padding wrong", turned(s, len(s)-1, 1), api.ErrFrame)
	}
	h := head("HGFR", 1, 9)
	wantRefused(t, "digest turned round", padded(h+digest(h)+"123456789"+"\xe3\x06\x92\x83"), api.ErrSum)
	wantRefused(t, "digest of all", padded(h+digest(h)+"123456789"+digest(h+digest(h)+"123456789")), api.ErrSum)
}

// plainGet is Get in the order of the chapter's words.
func plainGet(s string) (uint64, string, int, api.Errno) {
	if len(s) < 20 || s[:4] != "HGFR" {
		return 0, "", 0, api.ErrFrame
	}
	if digest(s[:16]) != s[16:20] {
		return 0, "", 0, api.ErrSum
	}
	length := int(binary.BigEndian.Uint32([]byte(s[12:16])))
	size := 512
	for size < 20+length+4 && length <= 65536 {
		size += 512
	}
	if length > 65536 || len(s) < size {
		return 0, "", 0, api.ErrFrame
	}
	text := s[20 : 20+length]
	if digest(text) != s[20+length:24+length] {
		return 0, "", 0, api.ErrSum
	}
	for _, c := range []byte(s[24+length : size]) {
		if c != 0 {
			return 0, "", 0, api.ErrFrame
		}
	}
	return binary.BigEndian.Uint64([]byte(s[4:12])), text, size, api.OK
}

// faulty is a frame in which up to two bytes are changed, and which may be cut off or go on.
func faulty(rnd *rand.Rand) string {
	lengths := []int{0, 1, 9, 480, 488, 489, 700, rnd.Intn(1100), rnd.Intn(1100)}
	length := lengths[rnd.Intn(len(lengths))]
	if rnd.Intn(20) == 0 {
		length = api.MaxFrame + rnd.Intn(2)
	}
	s := framed(rnd.Uint64(), noise(length))
	places := []int{rnd.Intn(20), rnd.Intn(len(s)), len(s) - 1 - rnd.Intn(10), min(20+length+rnd.Intn(8), len(s)-1)}
	for range rnd.Intn(3) {
		s = turned(s, places[rnd.Intn(len(places))], byte(1+rnd.Intn(255)))
	}
	switch rnd.Intn(4) {
	case 0:
		return s[:rnd.Intn(len(s)+1)]
	case 1:
		return s + noise(rnd.Intn(600))
	}
	return s
}

// P5.2: frames with several faults at once.
func TestGetMixed(t *testing.T) {
	rnd := rand.New(rand.NewSource(5))
	told := map[api.Errno]int{}
	for range 10000 {
		s := faulty(rnd)
		n, text, size, err := Get(s)
		wantN, wantText, wantSize, want := plainGet(s)
		if n != wantN || text != wantText || size != wantSize || err != want {
			t.Fatalf("%d bytes: %d, %d bytes, %d, %v; want %d, %d bytes, %d, %v", len(s), n, len(text), size, err, wantN, len(wantText), wantSize, want)
		}
		told[err]++
	}
	if told[api.OK] < 1000 || told[api.ErrFrame] < 1000 || told[api.ErrSum] < 1000 {
		t.Errorf("too few of a kind: %v", told)
	}
}

// sectors is n writes, at places all over a device, whose data differ.
func sectors(n int) []api.Write {
	l := make([]api.Write, n)
	for i := range l {
		l[i] = api.Write{At: i * 1237 % api.MaxSectors, Data: noise(512 + i)[i:]}
	}
	return l
}

// wrote is a text of writes as the chapter's words tell it, whatever the writes are.
func wrote(l []api.Write) string {
	b := binary.BigEndian.AppendUint32(nil, uint32(len(l)))
	for _, w := range l {
		b = append(binary.BigEndian.AppendUint32(b, uint32(w.At)), w.Data...)
	}
	return string(b)
}

// P5.3: none, one and all writes that are allowed, at the edges of a device, at one place twice, in their order.
func TestWrites(t *testing.T) {
	a, b := noise(512), strings.Repeat("\x00", 512)
	lists := [][]api.Write{
		nil, {}, {{At: 0, Data: a}}, {{At: api.MaxSectors - 1, Data: b}}, {{At: 1, Data: a}, {At: 0, Data: b}},
		{{At: 5, Data: a}, {At: 5, Data: b}, {At: 5, Data: a}}, {{At: 0x1234, Data: b}}, slices.Repeat([]api.Write{{At: 0, Data: b}}, api.MaxWrites),
	}
	for n := range api.MaxWrites + 1 {
		lists = append(lists, sectors(n))
	}
	for _, l := range lists {
		before := slices.Clone(l)
		s, err := Writes(l)
		if s != wrote(l) || err != api.OK {
			t.Errorf("%d writes: %d bytes, %v", len(l), len(s), err)
		}
		if !slices.Equal(l, before) {
			t.Errorf("%d writes: the argument is modified", len(l))
		}
		back, err := Split(s)
		if !slices.Equal(back, l) || err != api.OK {
			t.Errorf("%d writes: %d of them back, %v", len(l), len(back), err)
		}
	}
	if s, err := Writes([]api.Write{{At: 0x1234, Data: a}}); s != "\x00\x00\x00\x01\x00\x00\x12\x34"+a || err != api.OK {
		t.Errorf("%x, %v", s[:8], err)
	}
}

// P5.3: too many writes come before places; a place or data that is wrong, wherever it stands.
func TestWritesRefused(t *testing.T) {
	refused := func(l []api.Write, want api.Errno) {
		t.Helper()
		if s, err := Writes(l); s != "" || err != want {
			t.Errorf("%d writes: %d bytes, %v, want %v", len(l), len(s), err, want)
		}
	}
	good := noise(512)
	for _, n := range []int{api.MaxWrites + 1, api.MaxWrites + 2, 1000} {
		refused(sectors(n), api.ErrMany)
		refused(make([]api.Write, n), api.ErrMany)
		refused(slices.Repeat([]api.Write{{At: -1, Data: good}}, n), api.ErrMany)
	}
	for _, w := range []api.Write{
		{At: -1, Data: good}, {At: math.MinInt, Data: good}, {At: api.MaxSectors, Data: good}, {At: 1 << 32, Data: good}, {At: math.MaxInt, Data: good},
		{At: 0}, {At: 0, Data: good[:511]}, {At: 0, Data: good + "x"}, {At: 0, Data: good + good}, {At: -1},
	} {
		refused([]api.Write{w}, api.ErrPlace)
		for _, at := range []int{0, 40, api.MaxWrites - 1} {
			l := sectors(api.MaxWrites)
			l[at] = w
			refused(l, api.ErrPlace)
		}
	}
}

// P5.3: texts that are no result of Writes.
func TestSplitRefused(t *testing.T) {
	refused := func(what, text string) {
		t.Helper()
		if l, err := Split(text); len(l) != 0 || err != api.ErrFrame {
			t.Errorf("%s: %d writes, %v", what, len(l), err)
		}
	}
	for _, n := range []int{0, 1, 2, 3, api.MaxWrites} {
		s := wrote(sectors(n))
		for i := range s {
			if i < 1600 || i > len(s)-600 {
				refused("cut off", s[:i])
			}
		}
		for _, behind := range []string{"\x00", "x", noise(515), noise(516)} {
			refused("bytes behind", s+behind)
		}
		for i := range 4 {
			for by := 1; by < 256; by++ {
				refused("another number", turned(s, i, byte(by)))
			}
		}
	}
	refused("too many", wrote(sectors(api.MaxWrites+1)))
	refused("far too many", "\xff\xff\xff\xff"+wrote(sectors(3))[4:])
	for _, place := range []string{"\x00\x00\x20\x00", "\x00\x01\x00\x00", "\x01\x00\x00\x00", "\x80\x00\x00\x00", "\xff\xff\xff\xff"} {
		refused("place", "\x00\x00\x00\x01"+place+noise(512))
		refused("second place", "\x00\x00\x00\x02\x00\x00\x00\x07"+noise(512)+place+noise(512))
	}
}

// P5.3: a text of places and sectors is a result of Writes whatever the sectors hold.
func TestSplit(t *testing.T) {
	for _, x := range []struct {
		text string
		want []api.Write
	}{
		{"\x00\x00\x00\x00", nil},
		{"\x00\x00\x00\x01\x00\x00\x1f\xff" + noise(512), []api.Write{{At: 8191, Data: noise(512)}}},
		{"\x00\x00\x00\x02\x00\x00\x00\x01" + noise(512) + "\x00\x00\x00\x01" + strings.Repeat("\xff", 512), []api.Write{{At: 1, Data: noise(512)}, {At: 1, Data: strings.Repeat("\xff", 512)}}},
	} {
		if l, err := Split(x.text); !slices.Equal(l, x.want) || err != api.OK {
			t.Errorf("%d bytes: %v, %v", len(x.text), l, err)
		}
	}
	if l, err := Split(wrote(sectors(api.MaxWrites))); !slices.Equal(l, sectors(api.MaxWrites)) || err != api.OK {
		t.Errorf("%d writes, %v", len(l), err)
	}
}

// A text of as many writes as there may be stands in a frame.
func TestWritesInFrame(t *testing.T) {
	text, _ := Writes(sectors(api.MaxWrites))
	_, got, _, err := Get(put(t, 1, text))
	if err != api.OK {
		t.Fatal(err)
	}
	if l, err := Split(got); !slices.Equal(l, sectors(api.MaxWrites)) || err != api.OK {
		t.Errorf("%d writes, %v", len(l), err)
	}
}

// Answers share no memory with what was handed in, nor with each other.
func TestMemory(t *testing.T) {
	within := func(part, whole string) bool {
		at, from := uintptr(unsafe.Pointer(unsafe.StringData(part))), uintptr(unsafe.Pointer(unsafe.StringData(whole)))
		return at >= from && at < from+uintptr(len(whole))
	}
	s := put(t, 1, noise(100))
	_, text, _, _ := Get(s)
	_, again, _, _ := Get(s)
	if within(text, s) || within(text, again) {
		t.Error("Get's text is shared")
	}
	all := wrote(sectors(3))
	l, _ := Split(all)
	for i, w := range l {
		if within(w.Data, all) || i > 0 && within(w.Data, l[i-1].Data) {
			t.Errorf("Split's write %d is shared", i)
		}
	}
}

// A step that gives up is caught at any depth; a fault of the program is not taken for a bad frame.
func TestCatch(t *testing.T) {
	if err := catch(func() {}); err != api.OK {
		t.Error(err)
	}
	deep := func() { func() { must(true, api.ErrFrame); must(false, api.ErrSum); t.Error("went on") }() }
	if err := catch(deep); err != api.ErrSum {
		t.Error(err)
	}
	defer func() {
		if what := recover(); what != "a fault" {
			t.Errorf("%v", what)
		}
	}()
	catch(func() { panic("a fault") })
	t.Error("the fault is gone")
}
