package inquiry

import (
	"math"
	"math/rand"
	"slices"
	"strings"
	"testing"

	"headgate/api"
)

const id = "0123456789abcdef"

func zeros(n int) string { return strings.Repeat("\x00", n) }

// around are numbers at both sides of each end that an argument has, far from them, and ones that would be within if some of
// their bits were lost.
func around() []int {
	l := []int{math.MinInt, math.MinInt + 1, math.MaxInt, math.MaxInt - 1, math.MinInt32, math.MaxInt32}
	for _, n := range []int{0, 131, 176, 256, 387, 432, 512, 1 << 16, 1 << 24, 1 << 31, 1 << 32, 1 << 33, 1 << 62, 0x12345678, 0xfedcba98} {
		for d := -2; d <= 2; d++ {
			l = append(l, n+d, -n+d)
		}
	}
	return l
}

// holdPage holds Page against the chapter's words.
func holdPage(t *testing.T, u api.Unit, there bool, page int) {
	t.Helper()
	want, ok := modelPage(u, there, page)
	wantErr := api.OK
	if !ok {
		wantErr = api.ErrParam
	}
	if got, err := Page(u, there, page); got != want || err != wantErr {
		t.Fatalf("Page(%+v, %v, %d): %x, %v, not %x, %v", u, there, page, got, err, want, wantErr)
	}
}

// holdRanges holds Ranges of s against the chapter's words, and that Unmap of the ranges is s.
func holdRanges(t *testing.T, s string) {
	t.Helper()
	want, ok := modelRanges(s)
	got, err := Ranges(s)
	if !ok {
		if len(got) != 0 || err != api.ErrParam {
			t.Fatalf("Ranges(%x): %v, %v, though it is no list", s, got, err)
		}
		return
	}
	if !slices.Equal(got, want) || err != api.OK {
		t.Fatalf("Ranges(%x): %v, %v, not %v", s, got, err, want)
	}
	if back, err := Unmap(got); back != s || err != api.OK {
		t.Fatalf("Unmap(%v): %x, %v, not %x", got, back, err, s)
	}
}

// holdUnmap holds Unmap of l against the chapter's words, and that Ranges of the list is l.
func holdUnmap(t *testing.T, l []api.Range) {
	t.Helper()
	want, ok := modelUnmap(l)
	got, err := Unmap(l)
	if !ok {
		if got != "" || err != api.ErrParam {
			t.Fatalf("Unmap(%v): %x, %v, though there is no list", l, got, err)
		}
		return
	}
	if got != want || err != api.OK {
		t.Fatalf("Unmap(%v): %x, %v, not %x", l, got, err, want)
	}
	if back, err := Ranges(got); !slices.Equal(back, l) || err != api.OK {
		t.Fatalf("Ranges(%x): %v, %v, not %v", got, back, err, l)
	}
}

// The chapter's example.
func TestExample(t *testing.T) {
	if got := Capacity(8); got != "\x00\x00\x00\x07\x00\x00\x02\x00" {
		t.Errorf("%x", got)
	}
}

// P17.1: each page, written out.
func TestPagesWritten(t *testing.T) {
	u := api.Unit{Blocks: 9, Id: id}
	behind := "\x00\x06\x02\x1f\x00\x00\x00HEADGATEBLOCK UNIT      0001"
	for _, x := range []struct {
		there bool
		page  int
		want  string
	}{
		{true, 0, "\x00" + behind},
		{false, 0, "\x7f" + behind},
		{true, 256, "\x00\x00\x00\x03\x00\x83\xb0"},
		{true, 256 + 131, "\x00\x83\x00\x14\x01\x01\x00\x10" + id},
		{true, 256 + 176, "\x00\xb0\x00\x3c\x00\x20\x00\x00\x00\x00\x00\x40" + zeros(8) + "\x00\x00\x10\x00\x00\x00\x00\x10" + zeros(36)},
	} {
		if got, err := Page(u, x.there, x.page); got != x.want || err != api.OK {
			t.Errorf("Page of %v, %d: %x, %v", x.there, x.page, got, err)
		}
	}
}

// P17.1: all pages of units of all kinds, there or not.
func TestPages(t *testing.T) {
	pages := around()
	for page := -600; page <= 1200; page++ {
		pages = append(pages, page)
	}
	for _, there := range []bool{true, false} {
		for _, u := range []api.Unit{{}, {Blocks: 9, Id: id}, {Blocks: -1, Id: id + "x"}, {Blocks: math.MaxInt, Id: id[1:]}, {Id: zeros(16)}} {
			for _, page := range pages {
				holdPage(t, u, there, page)
			}
		}
	}
}

// P17.1: Ids of all lengths and of all bytes.
func TestIds(t *testing.T) {
	long := id + id + strings.Repeat("\xff", 1000)
	for n := range long {
		for _, page := range []int{0, 256, 256 + 131, 256 + 176} {
			holdPage(t, api.Unit{Blocks: 1, Id: long[:n]}, true, page)
			holdPage(t, api.Unit{Blocks: 1, Id: long[:n]}, false, page)
		}
	}
	for i := range 16 {
		for v := range 256 {
			b := []byte(id)
			b[i] = byte(v)
			holdPage(t, api.Unit{Id: string(b)}, true, 256+131)
		}
	}
}

// P17.1: how many blocks a unit has matters to no page.
func TestBlocksOfPages(t *testing.T) {
	for _, blocks := range around() {
		for _, page := range []int{0, 256, 256 + 131, 256 + 176} {
			holdPage(t, api.Unit{Blocks: blocks, Id: id}, true, page)
		}
	}
}

// P17.1: units of all sizes, and numbers that are none.
func TestCapacity(t *testing.T) {
	for n, want := range map[int]string{
		1: zeros(4), 2: "\x00\x00\x00\x01", 258: "\x00\x00\x01\x01", 0x12345678: "\x12\x34\x56\x77", 1<<32 - 1: "\xff\xff\xff\xfe",
		0: zeros(4), -1: zeros(4), 1 << 32: zeros(4), 1<<32 + 1: zeros(4), 1<<32 + 9: zeros(4), math.MinInt: zeros(4), math.MaxInt: zeros(4),
	} {
		if got := Capacity(n); got != want+"\x00\x00\x02\x00" {
			t.Errorf("Capacity(%d): %x", n, got)
		}
	}
	l := around()
	for n := -300; n < 10000; n++ {
		l = append(l, n)
	}
	for bit := range 63 {
		l = append(l, 1<<bit, 1<<bit+5, -1<<bit)
	}
	for _, n := range l {
		if got, want := Capacity(n), modelCapacity(n); got != want {
			t.Fatalf("Capacity(%d): %x, not %x", n, got, want)
		}
	}
}

// P17.1: lists of all numbers of units, and of numbers that are none.
func TestList(t *testing.T) {
	for n, want := range map[int]string{
		0:   zeros(8),
		1:   "\x00\x00\x00\x08" + zeros(12),
		3:   "\x00\x00\x00\x18" + zeros(4) + zeros(8) + "\x00\x01" + zeros(6) + "\x00\x02" + zeros(6),
		-1:  zeros(8),
		257: zeros(8),
	} {
		if got := List(n); got != want {
			t.Errorf("List(%d): %x", n, got)
		}
	}
	if got := List(256); len(got) != 2056 || got[:8] != "\x00\x00\x08\x00"+zeros(4) || got[2048:] != "\x00\xff"+zeros(6) {
		t.Errorf("List(256): %x", got)
	}
	l := around()
	for n := -300; n <= 600; n++ {
		l = append(l, n)
	}
	for _, n := range l {
		if got, want := List(n), modelList(n); got != want {
			t.Fatalf("List(%d): %x, not %x", n, got, want)
		}
	}
}

// lists are ranges of which there are lists: none, one, some, and as many as there may be.
func lists() [][]api.Range {
	var most []api.Range
	for n := range api.MaxRanges {
		most = append(most, api.Range{Lba: 0x01020304 * n, Blocks: 0x0f0e0d0c + n})
	}
	return [][]api.Range{
		{},
		{{}},
		{{Lba: 1<<31 - 1, Blocks: 1<<32 - 1}},
		{{Lba: 0x12345678, Blocks: 0xfedcba98}},
		{{Lba: 5, Blocks: 258}, {}, {Lba: 5, Blocks: 258}},
		most[:15],
		most,
	}
}

// P17.2: lists and their ranges, written out.
func TestUnmapWritten(t *testing.T) {
	for _, x := range []struct {
		l []api.Range
		s string
	}{
		{nil, "\x00\x06" + zeros(6)},
		{[]api.Range{{}}, "\x00\x16\x00\x10" + zeros(4) + zeros(16)},
		{[]api.Range{{Lba: 0x12345678, Blocks: 0xfedcba98}}, "\x00\x16\x00\x10" + zeros(8) + "\x12\x34\x56\x78\xfe\xdc\xba\x98" + zeros(4)},
		{[]api.Range{{Lba: 1<<31 - 1, Blocks: 1<<32 - 1}, {Lba: 1}},
			"\x00\x26\x00\x20" + zeros(8) + "\x7f\xff\xff\xff\xff\xff\xff\xff" + zeros(11) + "\x01" + zeros(8)},
		{make([]api.Range, 16), "\x01\x06\x01\x00" + zeros(4) + zeros(256)},
	} {
		if got, err := Unmap(x.l); got != x.s || err != api.OK {
			t.Errorf("Unmap(%v): %x, %v", x.l, got, err)
		}
		if got, err := Ranges(x.s); !slices.Equal(got, x.l) || err != api.OK {
			t.Errorf("Ranges(%x): %v, %v", x.s, got, err)
		}
	}
}

// P17.2: texts that are no list, each for one reason.
func TestNoList(t *testing.T) {
	for i, s := range []string{
		"", zeros(8), "\x00\x06" + zeros(5), "\x00\x06" + zeros(7), "\x00\x06\x00\x10" + zeros(4),
		"\x00\x07" + zeros(6), "\x00\x05" + zeros(6), "\x00\x08" + zeros(6), "\x00\x06" + zeros(5) + "\x01", "\x00\x06\x00\x00\x01" + zeros(3),
		"\x00\x16\x00\x10" + zeros(19), "\x00\x16\x00\x10" + zeros(21), "\x00\x16\x00\x10" + zeros(4), "\x00\x06" + zeros(22),
		"\x00\x16\x00\x20" + zeros(20), "\x00\x26\x00\x10" + zeros(20), "\x00\x26\x00\x20" + zeros(20), "\x00\x16\x00\x0f" + zeros(20),
		"\x00\x15\x00\x0f" + zeros(19), "\x00\x17\x00\x11" + zeros(21), "\x00\x0e\x00\x08" + zeros(12),
		"\x00\x16\x00\x10" + zeros(4) + "\x80" + zeros(15), "\x00\x16\x00\x10" + zeros(7) + "\x01" + zeros(12), "\x00\x16\x00\x10" + zeros(8) + "\x80" + zeros(11),
		"\x00\x16\x00\x10" + zeros(16) + "\x01" + zeros(3), "\x00\x16\x00\x10" + zeros(19) + "\x01",
		"\x01\x16\x01\x10" + zeros(4) + zeros(272), "\x01\x06\x01\x00" + zeros(4) + zeros(272), "\x01\x16\x01\x00" + zeros(4) + zeros(272),
	} {
		if got, err := Ranges(s); len(got) != 0 || err != api.ErrParam {
			t.Errorf("%d: Ranges(%x): %v, %v", i, s, got, err)
		}
		holdRanges(t, s)
	}
}

// P17.2: ranges of which there is no list, each for one reason.
func TestNoRanges(t *testing.T) {
	for _, r := range []api.Range{
		{Lba: -1}, {Lba: 1 << 31}, {Lba: 1 << 32}, {Lba: math.MinInt}, {Lba: math.MaxInt}, {Lba: math.MinInt32},
		{Blocks: -1}, {Blocks: 1 << 32}, {Blocks: math.MinInt}, {Blocks: math.MaxInt},
	} {
		for n := range 16 {
			l := make([]api.Range, 16)
			l[n] = r
			for _, l := range [][]api.Range{{r}, l, l[:n+1], l[n:]} {
				if got, err := Unmap(l); got != "" || err != api.ErrParam {
					t.Errorf("Unmap(%v): %x, %v", l, got, err)
				}
			}
		}
	}
}

// P17.2, P17.3: all numbers of ranges up to more than there may be, and ones of which two bytes hold the same.
func TestHowMany(t *testing.T) {
	numbers := []int{255, 256, 257, 4095, 4096, 4097, 4112, 4113, 65536, 65537}
	for n := range 40 {
		numbers = append(numbers, n)
	}
	for _, n := range numbers {
		l := make([]api.Range, n)
		for i := range l {
			l[i] = api.Range{Lba: i, Blocks: n}
		}
		holdUnmap(t, l)
		holdRanges(t, written(l))
		holdRanges(t, written(l)+"\x00")
		holdRanges(t, written(l)+zeros(16))
	}
}

// P17.2, P17.3: each part at both sides of its ends, in each place.
func TestParts(t *testing.T) {
	numbers := around()
	for bit := range 63 {
		numbers = append(numbers, 1<<bit, 1<<bit-1)
	}
	for _, n := range numbers {
		for _, m := range []int{-1, 0, 1<<31 - 1, 1 << 31, 1<<32 - 1, 1 << 32} {
			holdUnmap(t, []api.Range{{Lba: n, Blocks: m}})
			holdUnmap(t, []api.Range{{Lba: m, Blocks: n}})
		}
		for i := range 16 {
			l := make([]api.Range, 16)
			l[i] = api.Range{Lba: n, Blocks: 7}
			holdUnmap(t, l)
			l[i] = api.Range{Lba: 7, Blocks: n}
			holdUnmap(t, l)
			holdUnmap(t, l[:i+1])
		}
	}
}

// P17.2, P17.3: each byte of lists replaced by all others, and each bit of an Lba set.
func TestEveryByte(t *testing.T) {
	for _, l := range lists() {
		s := written(l)
		for i := range s {
			b := []byte(s)
			for v := range 256 {
				b[i] = byte(v)
				holdRanges(t, string(b))
			}
		}
	}
	for bit := range 64 {
		b := []byte(written(make([]api.Range, 2)))
		b[24+7-bit/8] = 1 << (bit % 8)
		holdRanges(t, string(b))
		b[31] |= 1
		holdRanges(t, string(b))
	}
}

// P17.2: each length but the right one.
func TestLengths(t *testing.T) {
	for _, l := range lists() {
		s := written(l)
		long := s + zeros(40)
		for n := range long {
			holdRanges(t, long[:n])
		}
		holdRanges(t, s+s)
		holdRanges(t, s+strings.Repeat("\xff", 1<<17))
	}
	for n := range 300 {
		holdRanges(t, zeros(n))
		holdRanges(t, strings.Repeat("\xff", n))
		if n >= 8 { // what tells the length fits, whatever the length
			holdRanges(t, eb(n-2, 2)+eb(n-8, 2)+zeros(n-4))
		}
	}
}

// P17.2, P17.3: lists as they come, with some bytes replaced.
func TestRandomLists(t *testing.T) {
	r := rand.New(rand.NewSource(17))
	good := 0
	for range 100000 {
		var l []api.Range
		for range r.Intn(19) {
			l = append(l, api.Range{Lba: r.Intn(1 << 31), Blocks: r.Intn(1 << 32)})
		}
		holdUnmap(t, l)
		b := []byte(written(l))
		for range r.Intn(4) {
			b[r.Intn(len(b))] = byte(r.Intn(256))
		}
		holdRanges(t, string(b))
		if _, ok := modelRanges(string(b)); ok {
			good++
		}
	}
	if good < 10000 || good > 90000 {
		t.Errorf("%d of these are a list", good)
	}
}

// P17.2: the ranges are the caller's own, and those that are handed in stay as they are, with what lies behind them.
func TestOwnMemory(t *testing.T) {
	s := written(make([]api.Range, 3))
	a, _ := Ranges(s)
	b, _ := Ranges(s)
	for i := range a[:cap(a)] {
		a[:cap(a)][i] = api.Range{Lba: 1, Blocks: 1}
	}
	if !slices.Equal(b, make([]api.Range, 3)) {
		t.Error(b)
	}
	for _, wrong := range []int{0, -1} {
		l := make([]api.Range, 20)
		for i := range l {
			l[i] = api.Range{Lba: i, Blocks: wrong}
		}
		was := slices.Clone(l)
		Unmap(l[:3])
		if !slices.Equal(l, was) {
			t.Error(l)
		}
	}
}
