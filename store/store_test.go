package store

import (
	"math"
	"slices"
	"strconv"
	"strings"
	"testing"
	"unsafe"

	"headgate/api"
	"headgate/dev"
)

// needed is what a store requires, in the chapter's words.
func needed(l []api.Unit) int {
	n := 64 + 512
	for _, u := range l {
		n += 2 * u.Blocks
	}
	return n
}

// id is sixteen bytes of all kinds.
func id(seed int) string { return block(seed)[:16] }

func unitsOf(blocks ...int) []api.Unit {
	l := make([]api.Unit, len(blocks))
	for i, n := range blocks {
		l[i] = api.Unit{Blocks: n, Id: id(i)}
	}
	return l
}

// noise is n bytes of all values that show the number they were made from.
func noise(seed, n int) string {
	b := make([]byte, n)
	v := uint64(seed)*2654435761 + 1
	for i := range b {
		v = v*6364136223846793005 + 1442695040888963407
		b[i] = byte(v >> 56)
	}
	return string(b)
}

func block(seed int) string { return noise(seed, 512) }

func blocks(seed, n int) string { return noise(seed, n*512) }

func zeros(n int) string { return strings.Repeat("\x00", n*512) }

func device(t *testing.T, sectors int) *dev.Dev {
	t.Helper()
	d, err := dev.New(sectors)
	if err != api.OK {
		t.Fatal(sectors, err)
	}
	return d
}

// format is a store on a device that is just large enough.
func format(t *testing.T, l []api.Unit) (*dev.Dev, *Store) {
	t.Helper()
	d := device(t, needed(l))
	s, err := Format(d, l)
	if err != api.OK || s == nil {
		t.Fatal("Format", err)
	}
	return d, s
}

func open(t *testing.T, d *dev.Dev) *Store {
	t.Helper()
	s, err := Open(d)
	if err != api.OK || s == nil {
		t.Fatal("Open", err)
	}
	return s
}

func wantErr(t *testing.T, what string, got, want api.Errno) {
	t.Helper()
	if got != want {
		t.Errorf("%s: %v, want %v", what, got, want)
	}
}

func down(d *dev.Dev) {
	d.Arm(0)
	d.Flush()
}

// model is the units' blocks in the chapter's words: a block that is not stored is empty.
type model struct {
	blocks  [][]string
	records []string
}

func modelOf(l []api.Unit) model {
	m := model{make([][]string, len(l)), make([]string, len(l))}
	for i, u := range l {
		m.blocks[i] = make([]string, u.Blocks)
	}
	return m
}

func (m model) copied() model {
	c := model{make([][]string, len(m.blocks)), slices.Clone(m.records)}
	for i, l := range m.blocks {
		c.blocks[i] = slices.Clone(l)
	}
	return c
}

func (m model) write(lun, lba int, data string) {
	for i := range len(data) / 512 {
		m.blocks[lun][lba+i] = data[i*512 : (i+1)*512]
	}
}

func (m model) clear(lun int, l []api.Range) {
	for _, r := range l {
		clear(m.blocks[lun][r.Lba : r.Lba+r.Blocks])
	}
}

func (m model) used(lun int) int {
	n := 0
	for _, b := range m.blocks[lun] {
		if b != "" {
			n++
		}
	}
	return n
}

func (m model) read(lun, lba, n int) string {
	var s strings.Builder
	for _, b := range m.blocks[lun][lba : lba+n] {
		if b == "" {
			b = zeros(1)
		}
		s.WriteString(b)
	}
	return s.String()
}

// told is all that a store tells, of this model.
func (m model) told() string {
	var s strings.Builder
	for lun, record := range m.records {
		s.WriteString(unitTold(m.read(lun, 0, len(m.blocks[lun])), m.used(lun), record))
	}
	return s.String()
}

func unitTold(data string, used int, record string) string {
	return strconv.Itoa(used) + " used, " + strconv.Itoa(len(record)) + " recorded:" + record + data
}

// told is all that a store tells.
func told(t *testing.T, s *Store) string {
	t.Helper()
	var b strings.Builder
	for lun, u := range s.Units() {
		data, err := s.Read(lun, 0, u.Blocks)
		record, err2 := s.Recorded(lun)
		if err != api.OK || err2 != api.OK {
			t.Fatal("told", lun, err, err2)
		}
		b.WriteString(unitTold(data, s.Used(lun), record))
	}
	return b.String()
}

func wantTold(t *testing.T, what string, s *Store, m model) {
	t.Helper()
	if told(t, s) != m.told() {
		t.Fatalf("%s: another state than the calls'", what)
	}
}

var extremes = []int{math.MinInt, math.MinInt + 1, -1 << 62, -1 << 32, -65, -2, -1, 1 << 31, 1 << 32, 1<<32 + 1, 1 << 62, math.MaxInt - 1, math.MaxInt}

// P8.1: what units a store may have.
func TestFormatUnits(t *testing.T) {
	good := api.Unit{Blocks: 2, Id: id(1)}
	bad := []api.Unit{{}, {Blocks: 2}, {Id: id(1)}, {Blocks: 1, Id: id(1)[:15]}, {Blocks: 1, Id: id(1) + "x"}, {Blocks: 1, Id: "x"}, {Blocks: -1, Id: id(1)}, {Blocks: 4097, Id: id(1)}, {Blocks: 4096, Id: strings.Repeat("x", 32)}}
	for _, n := range extremes {
		bad = append(bad, api.Unit{Blocks: n, Id: id(1)})
	}
	refused := func(sectors int, l []api.Unit, want api.Errno) {
		t.Helper()
		d := device(t, sectors)
		if s, err := Format(d, l); s != nil || err != want {
			t.Errorf("%d units on %d sectors: %v, want %v", len(l), sectors, err, want)
		}
		down(d)
		if s, err := Format(d, l); s != nil || err != want {
			t.Errorf("%d units on %d sectors, down: %v, want %v", len(l), sectors, err, want)
		}
		if s, err := Format(nil, l); s != nil || err != api.ErrArg {
			t.Error("no device", err)
		}
	}
	for _, sectors := range []int{1, 575, 8192} {
		for _, u := range bad {
			for i := range 8 {
				l := slices.Repeat([]api.Unit{good}, 8)
				l[i] = u
				refused(sectors, l, api.ErrArg)
				refused(sectors, l[i:], api.ErrArg)
				refused(sectors, l[:i+1], api.ErrArg)
			}
		}
		for _, n := range []int{0, 9, 10, 16, 264, 1000} {
			refused(sectors, slices.Repeat([]api.Unit{good}, n), api.ErrArg)
		}
		refused(sectors, nil, api.ErrArg)
	}
	for n := 1; n <= 8; n++ {
		l := slices.Repeat([]api.Unit{good}, n)
		if s, err := Format(device(t, 8192), l); s == nil || err != api.OK || !slices.Equal(s.Units(), l) {
			t.Errorf("%d units: %v", n, err)
		}
	}
	if s, err := Format(nil, []api.Unit{good}); s != nil || err != api.ErrArg {
		t.Error("no device", err)
	}
	refused(8192, []api.Unit{{Blocks: 4096, Id: id(1)}}, api.ErrFull)
	refused(8192, slices.Repeat([]api.Unit{{Blocks: 4096, Id: id(1)}}, 8), api.ErrFull)
}

// P8.1: what device is large enough, to the sector; one too small comes ahead of one that is down.
func TestFormatSize(t *testing.T) {
	for _, l := range [][]api.Unit{unitsOf(1), unitsOf(3808), unitsOf(476, 476, 476, 476, 476, 476, 476, 476), unitsOf(20, 3), unitsOf(1, 1, 1, 1, 1, 1, 1, 1), unitsOf(64), unitsOf(3000, 1, 7)} {
		n := needed(l)
		for _, sectors := range []int{1, 63, 64, 512, 575, 576, n - 2, n - 1, n, n + 1, n + 500, 8192} {
			if sectors > 8192 {
				continue
			}
			want, wantDown := api.OK, api.ErrDown
			if sectors < n {
				want, wantDown = api.ErrFull, api.ErrFull
			}
			d := device(t, sectors)
			if s, err := Format(d, l); err != want || (s != nil) != (want == api.OK) {
				t.Errorf("%d sectors of %d: %v", sectors, n, err)
			}
			if want == api.OK {
				wantTold(t, "opened", open(t, d), modelOf(l))
			}
			down(d)
			if s, err := Format(d, l); err != wantDown || s != nil {
				t.Errorf("%d sectors of %d, down: %v", sectors, n, err)
			}
		}
	}
}

// P8.1: a new store has these units, of zeros, with nothing used and empty records, and is flushed.
func TestFormat(t *testing.T) {
	for _, l := range [][]api.Unit{unitsOf(1), unitsOf(5, 1, 9), {{Blocks: 2, Id: strings.Repeat("\x00", 16)}, {Blocks: 3, Id: strings.Repeat("\xff", 16)}, {Blocks: 2, Id: strings.Repeat("\x00", 16)}}, unitsOf(1, 2, 3, 4, 5, 6, 7, 8)} {
		d, s := format(t, l)
		for range 3 {
			if !slices.Equal(s.Units(), l) {
				t.Error("other units", s.Units())
			}
			wantTold(t, "new", s, modelOf(l))
			d.Crash(nil)
			s = open(t, d)
		}
	}
}

// P8.1: Format replaces a store that was there, and a device's former bytes do not show.
func TestFormatAgain(t *testing.T) {
	d := device(t, 700)
	dirt := noise(1, 700*512)
	wantErr(t, "dirt", d.Write(0, dirt), api.OK)
	wantErr(t, "flush", d.Flush(), api.OK)
	for i, l := range [][]api.Unit{unitsOf(20, 3), unitsOf(7), unitsOf(1, 1), unitsOf(20, 3)} {
		s, err := Format(d, l)
		wantErr(t, "Format", err, api.OK)
		wantTold(t, "formatted", s, modelOf(l))
		m := modelOf(l)
		for k := range i * 5 {
			wantErr(t, "write", s.Write(0, k%l[0].Blocks, block(k)), api.OK)
			wantErr(t, "record", s.Record(0, block(k)), api.OK)
			m.write(0, k%l[0].Blocks, block(k))
			m.records[0] = block(k)
		}
		wantErr(t, "flush", s.Flush(), api.OK)
		d.Crash(nil)
		s = open(t, d)
		wantTold(t, "opened", s, m)
		if !slices.Equal(s.Units(), l) {
			t.Error("other units", s.Units())
		}
	}
}

// P8.1: there is no store on other devices; one that is down comes first.
func TestOpenNone(t *testing.T) {
	if s, err := Open(nil); s != nil || err != api.ErrArg {
		t.Error("no device", err)
	}
	for _, sectors := range []int{1, 7, 8, 64, 575, 576, 577, 578, 1000, 8192} {
		for _, bytes := range []string{"", noise(sectors, sectors*512), strings.Repeat("HGST", sectors*128)} {
			d := device(t, sectors)
			wantErr(t, "write", d.Write(0, bytes), api.OK)
			if s, err := Open(d); s != nil || err != api.ErrImage {
				t.Errorf("%d sectors: %v", sectors, err)
			}
			down(d)
			if s, err := Open(d); s != nil || err != api.ErrDown {
				t.Errorf("%d sectors, down: %v", sectors, err)
			}
		}
	}
	d, _ := format(t, unitsOf(3))
	down(d)
	for range 2 {
		if s, err := Open(d); s != nil || err != api.ErrDown {
			t.Error("a store on a device that is down", err)
		}
	}
	d.Crash(nil)
	open(t, d)
}

// P8.1: without a crash, the last state is opened, though it was not flushed, and is safe from then on.
func TestOpenLast(t *testing.T) {
	l := unitsOf(6, 2)
	d, s := format(t, l)
	m := modelOf(l)
	for i := range 60 {
		lba, n := i%5, i%3
		switch i % 6 {
		case 2:
			wantErr(t, "clear", s.Clear(0, []api.Range{{Lba: lba, Blocks: n % 2}}), api.OK)
			m.clear(0, []api.Range{{Lba: lba, Blocks: n % 2}})
		case 5:
			wantErr(t, "record", s.Record(i%2, noise(i, i)), api.OK)
			m.records[i%2] = noise(i, i)
		default:
			n = min(n, 6-lba)
			wantErr(t, "write", s.Write(0, lba, blocks(i, n)), api.OK)
			m.write(0, lba, blocks(i, n))
		}
		wantTold(t, "changed", s, m)
		if i%4 == 3 {
			s = open(t, d)
			wantTold(t, "opened", s, m)
		}
		if i%8 == 7 {
			d.Crash(nil)
			s = open(t, d)
			wantTold(t, "opened and crashed", s, m)
		}
	}
}

// P8.2: each lba and number of blocks of a small unit, and far beyond, for reads and writes.
func TestRanges(t *testing.T) {
	l := unitsOf(5, 1)
	_, s := format(t, l)
	m := modelOf(l)
	wantErr(t, "write", s.Write(0, 1, blocks(1, 3)), api.OK)
	m.write(0, 1, blocks(1, 3))
	numbers := append([]int{0, 1, 2, 3, 4, 5, 6, 7, 64, 65}, extremes...)
	for _, lba := range numbers {
		for _, n := range numbers {
			want, data := api.ErrRange, ""
			if lba >= 0 && n >= 0 && lba <= 5 && n <= 5 && lba+n <= 5 {
				want, data = api.OK, m.read(0, lba, n)
			}
			if got, err := s.Read(0, lba, n); got != data || err != want {
				t.Errorf("Read(%d, %d): %d bytes, %v", lba, n, len(got), err)
			}
			wantErr(t, "one range", s.Clear(1, []api.Range{{Lba: lba, Blocks: n}}), oneBlock(lba, n))
			if n < 0 || n > 65 {
				continue
			}
			wantErr(t, "write", s.Write(0, lba, blocks(n, n)), want)
			if want == api.OK {
				m.write(0, lba, blocks(n, n))
			}
			for _, over := range []int{1, 511} {
				wantErr(t, "broken block", s.Write(0, lba, blocks(n, n)+block(1)[:over]), api.ErrRange)
			}
		}
		wantTold(t, "written", s, m)
	}
}

// oneBlock is what a range of a unit with one block comes to.
func oneBlock(lba, n int) api.Errno {
	if lba == 0 && (n == 0 || n == 1) || lba == 1 && n == 0 {
		return api.OK
	}
	return api.ErrRange
}

// P8.2: a write of as many blocks as there may be, and of one more; a read of more than that.
func TestMost(t *testing.T) {
	l := unitsOf(200)
	d, s := format(t, l)
	m := modelOf(l)
	for _, lba := range []int{0, 100, 136} {
		wantErr(t, "64 blocks", s.Write(0, lba, blocks(lba, 64)), api.OK)
		m.write(0, lba, blocks(lba, 64))
		for _, n := range []int{65, 66, 128, 200} {
			wantErr(t, "more", s.Write(0, lba, blocks(lba, n)), api.ErrRange)
		}
	}
	wantErr(t, "a byte more", s.Write(0, 0, blocks(1, 64)+"x"), api.ErrRange)
	wantErr(t, "beyond the end", s.Write(0, 137, blocks(1, 64)), api.ErrRange)
	wantTold(t, "written", s, m)
	for lba := 0; lba < 200; lba += 13 {
		for n := 0; lba+n <= 200; n += 17 {
			if got, err := s.Read(0, lba, n); got != m.read(0, lba, n) || err != api.OK {
				t.Errorf("Read(%d, %d): %v", lba, n, err)
			}
		}
	}
	wantTold(t, "opened", open(t, d), m)
}

// P8.2: clears of many ranges, which may be empty, the same, or one over the other; a wrong one spoils all.
func TestClear(t *testing.T) {
	l := unitsOf(40, 40)
	d, s := format(t, l)
	m := modelOf(l)
	r := func(numbers ...int) []api.Range {
		var l []api.Range
		for i := 0; i < len(numbers); i += 2 {
			l = append(l, api.Range{Lba: numbers[i], Blocks: numbers[i+1]})
		}
		return l
	}
	wrong := [][]api.Range{r(0, 41), r(40, 1), r(41, 0), r(-1, 1), r(-1, 0), r(0, -1), r(5, -5), r(math.MaxInt, 1), r(1, math.MaxInt), r(math.MaxInt, math.MaxInt), r(math.MinInt, math.MinInt), r(1<<32, 0), r(0, 1<<32)}
	for i, ranges := range [][]api.Range{
		nil, {}, r(0, 0), r(40, 0), r(0, 1), r(39, 1), r(0, 40), r(7, 3), r(7, 3, 7, 3), r(7, 3, 8, 5), r(30, 5, 2, 5, 20, 0, 9, 1), r(5, 1, 6, 1, 7, 1), slices.Repeat(r(3, 2), 16),
		r(0, 1, 2, 1, 4, 1, 6, 1, 8, 1, 10, 1, 12, 1, 14, 1, 16, 1, 18, 1, 20, 1, 22, 1, 24, 1, 26, 1, 28, 1, 30, 10),
	} {
		wantErr(t, "write", s.Write(0, 0, blocks(i, 40)), api.OK)
		wantErr(t, "write", s.Write(1, 0, blocks(i+100, 40)), api.OK)
		m.write(0, 0, blocks(i, 40))
		m.write(1, 0, blocks(i+100, 40))
		given := slices.Clone(ranges)
		for _, x := range wrong {
			for at := 0; at <= len(ranges) && len(ranges) < 16; at++ {
				wantErr(t, "wrong", s.Clear(0, slices.Insert(slices.Clone(ranges), at, x...)), api.ErrRange)
			}
			many := append(slices.Repeat(r(0, 1), 16), x...)
			wantErr(t, "too many", s.Clear(0, many), api.ErrMany)
			wantErr(t, "as many as may be, one wrong", s.Clear(0, many[1:]), api.ErrRange)
		}
		wantErr(t, "far too many", s.Clear(0, slices.Repeat(r(0, 1), 1000)), api.ErrMany)
		wantTold(t, "refused", s, m)
		wantErr(t, "clear", s.Clear(0, ranges), api.OK)
		m.clear(0, ranges)
		wantTold(t, "cleared", s, m)
		if !slices.Equal(given, ranges) {
			t.Error("an argument is modified")
		}
		s = open(t, d)
		wantTold(t, "opened", s, m)
	}
}

// P8.2: Used counts the blocks that were written and not cleared since, each once, also those of zeros.
func TestUsed(t *testing.T) {
	d, s := format(t, unitsOf(9, 4))
	want := func(a, b int) {
		t.Helper()
		for _, s := range []*Store{s, open(t, d)} {
			if s.Used(0) != a || s.Used(1) != b {
				t.Errorf("%d and %d used, want %d and %d", s.Used(0), s.Used(1), a, b)
			}
		}
	}
	want(0, 0)
	wantErr(t, "zeros", s.Write(0, 2, zeros(2)), api.OK)
	want(2, 0)
	wantErr(t, "again", s.Write(0, 2, blocks(1, 1)), api.OK)
	want(2, 0)
	wantErr(t, "over", s.Write(0, 3, blocks(1, 4)), api.OK)
	want(5, 0)
	wantErr(t, "none", s.Write(0, 9, ""), api.OK)
	want(5, 0)
	wantErr(t, "other unit", s.Write(1, 0, blocks(1, 4)), api.OK)
	want(5, 4)
	wantErr(t, "clear", s.Clear(0, []api.Range{{Lba: 0, Blocks: 4}}), api.OK)
	want(3, 4)
	wantErr(t, "clear again", s.Clear(0, []api.Range{{Lba: 0, Blocks: 4}}), api.OK)
	want(3, 4)
	wantErr(t, "write", s.Write(0, 0, zeros(1)), api.OK)
	want(4, 4)
	wantErr(t, "all", s.Clear(1, []api.Range{{Lba: 0, Blocks: 4}}), api.OK)
	want(4, 0)
	wantErr(t, "record", s.Record(1, block(1)), api.OK)
	want(4, 0)
	for _, lun := range append([]int{2, 3, 8, 9}, extremes...) {
		if n := s.Used(lun); n != 0 {
			t.Errorf("unit %d: %d used", lun, n)
		}
	}
}

// P8.2: records of all lengths, of bytes of all values, unit by unit.
func TestRecord(t *testing.T) {
	l := unitsOf(1, 1, 1)
	d, s := format(t, l)
	m := modelOf(l)
	for i, n := range []int{1, 2048, 0, 100, 2047, 500, 511, 512, 513, 2048, 2048, 1} {
		for _, long := range []int{2049, 2050, 4096, 1 << 16, 1 << 20} {
			wantErr(t, "too long", s.Record(i%3, noise(1, long)), api.ErrLong)
		}
		wantTold(t, "too long", s, m)
		wantErr(t, "record", s.Record(i%3, noise(i, n)), api.OK)
		m.records[i%3] = noise(i, n)
		wantTold(t, "recorded", s, m)
		wantTold(t, "opened", open(t, d), m)
		wantErr(t, "flush", s.Flush(), api.OK)
		d.Crash(nil)
		s = open(t, d)
		wantTold(t, "crashed", s, m)
	}
}

// P8.2: a unit that does not exist comes ahead of all other errors, also of a device that is down.
func TestNoUnit(t *testing.T) {
	d, s := format(t, unitsOf(2, 2))
	for range 2 {
		for _, lun := range append([]int{2, 3, 7, 8, 256, 257}, extremes...) {
			for _, lba := range []int{0, -1, 5} {
				if got, err := s.Read(lun, lba, 1); got != "" || err != api.ErrLun {
					t.Errorf("Read of %d: %v", lun, err)
				}
				wantErr(t, "write", s.Write(lun, lba, block(1)), api.ErrLun)
				wantErr(t, "broken write", s.Write(lun, lba, "abc"), api.ErrLun)
				wantErr(t, "clear", s.Clear(lun, []api.Range{{Lba: lba, Blocks: 1}}), api.ErrLun)
			}
			wantErr(t, "clear", s.Clear(lun, make([]api.Range, 17)), api.ErrLun)
			wantErr(t, "record", s.Record(lun, "r"), api.ErrLun)
			wantErr(t, "long record", s.Record(lun, noise(1, 2049)), api.ErrLun)
			if r, err := s.Recorded(lun); r != "" || err != api.ErrLun {
				t.Errorf("Recorded of %d: %v", lun, err)
			}
		}
		down(d)
	}
}

// P8.2: a nil store has no unit.
func TestNil(t *testing.T) {
	var s *Store
	for _, lun := range append([]int{0, 1}, extremes...) {
		if got, err := s.Read(lun, 0, 0); got != "" || err != api.ErrLun {
			t.Error("Read", err)
		}
		wantErr(t, "write", s.Write(lun, 0, ""), api.ErrLun)
		wantErr(t, "write", s.Write(lun, -1, "abc"), api.ErrLun)
		wantErr(t, "clear", s.Clear(lun, nil), api.ErrLun)
		wantErr(t, "clear", s.Clear(lun, make([]api.Range, 17)), api.ErrLun)
		wantErr(t, "record", s.Record(lun, noise(1, 2049)), api.ErrLun)
		if r, err := s.Recorded(lun); r != "" || err != api.ErrLun {
			t.Error("Recorded", err)
		}
		if s.Used(lun) != 0 {
			t.Error("Used")
		}
	}
	wantErr(t, "flush", s.Flush(), api.ErrArg)
	if len(s.Units()) != 0 {
		t.Error("Units")
	}
}

// P8.2: units do not share their blocks, nor do stores.
func TestApart(t *testing.T) {
	l := unitsOf(4, 4, 4)
	_, a := format(t, l)
	_, b := format(t, l)
	m, n := modelOf(l), modelOf(l)
	for i := range 50 {
		wantErr(t, "write", a.Write(i%3, i%4, block(i)), api.OK)
		m.write(i%3, i%4, block(i))
		wantErr(t, "write", b.Write(i%2, i%3, block(-i)), api.OK)
		n.write(i%2, i%3, block(-i))
		wantTold(t, "one store", a, m)
		wantTold(t, "the other store", b, n)
	}
}

// P8.3: a device that is just large enough never is full, however its blocks are written over.
func TestNeverFull(t *testing.T) {
	for _, l := range [][]api.Unit{unitsOf(1), unitsOf(2), unitsOf(64), unitsOf(65, 1), unitsOf(3, 1, 5), unitsOf(130)} {
		for flush := range 2 {
			d, s := format(t, l)
			m := modelOf(l)
			for i := range 900 {
				lun := i % len(l)
				n := min(l[lun].Blocks, 64)
				if i > 300 {
					n = 1 + i*7%n
				}
				lba := i * 13 % (l[lun].Blocks - n + 1)
				data := blocks(i, n)
				if err := s.Write(lun, lba, data); err != api.OK {
					t.Fatalf("write %d: %v", i, err)
				}
				m.write(lun, lba, data)
				if flush == 1 && i%3 == 0 {
					wantErr(t, "flush", s.Flush(), api.OK)
				}
				if i%97 == 0 {
					wantTold(t, "written", s, m)
				}
			}
			wantTold(t, "written", s, m)
			wantTold(t, "opened", open(t, d), m)
		}
	}
}

// P8.3: the largest store there is: all blocks written, none beside the one before it, and all records as long as may be.
func TestLargest(t *testing.T) {
	l := unitsOf(476, 476, 476, 476, 476, 476, 476, 476)
	if needed(l) != api.MaxSectors {
		t.Fatal("there is a larger one")
	}
	d, s := format(t, l)
	m := modelOf(l)
	for odd := range 2 {
		for lun := range l {
			for lba := odd; lba < 476; lba += 2 {
				data := block(lun*1000 + lba)
				if err := s.Write(lun, lba, data); err != api.OK {
					t.Fatal(lun, lba, err)
				}
				m.write(lun, lba, data)
			}
		}
	}
	for i := range 400 {
		wantErr(t, "record", s.Record(i%8, noise(i, 2048)), api.OK)
		m.records[i%8] = noise(i, 2048)
	}
	wantErr(t, "64 blocks", s.Write(3, 100, blocks(1, 64)), api.OK)
	m.write(3, 100, blocks(1, 64))
	wantTold(t, "written", s, m)
	wantErr(t, "flush", s.Flush(), api.OK)
	d.Crash(nil)
	wantTold(t, "opened", open(t, d), m)
}

// Rule 2: answers are new memory, arguments stay as they are and are not kept.
func TestMemory(t *testing.T) {
	given := unitsOf(3, 2, 1)
	l := slices.Clone(given)
	d, s := format(t, l[:2])
	if !slices.Equal(l, given) {
		t.Error("an argument is modified")
	}
	clear(l)
	first, again := s.Units(), s.Units()
	if !slices.Equal(first, given[:2]) || &first[0] == &again[0] {
		t.Error("the units are not the argument's, or shared")
	}
	place := func(s string) *byte { return unsafe.StringData(s) }
	if place(first[0].Id) == place(again[0].Id) || place(first[0].Id) == place(given[0].Id) {
		t.Error("an Id is shared")
	}
	clear(first)
	if !slices.Equal(s.Units(), given[:2]) || !slices.Equal(again, given[:2]) {
		t.Error("an answer is shared")
	}
	data, record := blocks(1, 2), noise(1, 100)
	wantErr(t, "write", s.Write(0, 0, data), api.OK)
	wantErr(t, "record", s.Record(0, record), api.OK)
	a, _ := s.Read(0, 0, 2)
	b, _ := s.Read(0, 0, 2)
	if place(a) == place(data) || place(a) == place(b) {
		t.Error("a read is shared")
	}
	x, _ := s.Recorded(0)
	y, _ := s.Recorded(0)
	if place(x) == place(record) || place(x) == place(y) {
		t.Error("a record is shared")
	}
	ranges := []api.Range{{Lba: 0, Blocks: 1}, {Lba: 2, Blocks: 1}, {Lba: 9, Blocks: 9}}
	before := slices.Clone(ranges)
	wantErr(t, "clear", s.Clear(0, ranges[:2]), api.OK)
	if !slices.Equal(ranges, before) {
		t.Error("ranges are modified")
	}
	open(t, d)
}
