package extents

import (
	"encoding/binary"
	"math"
	"math/rand"
	"slices"
	"strings"
	"testing"

	"headgate/api"
)

func x(lba, blocks, at int) api.Extent { return api.Extent{Lba: lba, Blocks: blocks, At: at} }

func list(l ...api.Extent) []api.Extent { return l }

// singles is n extents of one block each, which stand side by side and are stored apart.
func singles(n int) []api.Extent {
	l := make([]api.Extent, n)
	for i := range l {
		l[i] = x(i, 1, api.MaxSectors-1-2*i)
	}
	return l
}

// goods is lists that are good, also at the edges of a unit and of a device.
func goods() [][]api.Extent {
	return [][]api.Extent{
		nil, {}, list(x(0, 1, 0)), list(x(4095, 1, 8191)), list(x(0, 4096, 0)), list(x(0, 4096, 4096)), list(x(4000, 96, 8096)),
		list(x(0, 2, 5), x(2, 1, 9)), list(x(0, 2, 5), x(2, 1, 6)), list(x(0, 2, 5), x(2, 1, 8)), // side by side, stored apart
		list(x(0, 2, 5), x(3, 1, 7)), list(x(0, 2, 5), x(3, 1, 8)), // stored side by side, apart
		list(x(0, 1, 5), x(2, 1, 5)), list(x(0, 2, 5), x(2, 2, 5)), list(x(0, 3, 5), x(7, 4, 6)), // stored in the same sectors
		list(x(0, 2, 7), x(2, 2, 5)), // stored in the other order
		list(x(0, 1, 9), x(1, 1, 7), x(2, 1, 5)), list(x(5, 1, 1), x(6, 2, 9), x(4095, 1, 0)),
		list(x(0, 1, 100), x(1, 4095, 0)), singles(100), singles(4096),
	}
}

// bads is lists that are not good, each for one reason.
func bads() [][]api.Extent {
	l := [][]api.Extent{
		list(x(0, 2, 5), x(2, 1, 7)), list(x(0, 1, 0), x(1, 4095, 1)), list(x(9, 1, 9), x(20, 1, 1), x(21, 1, 2)), list(x(1, 1, 1), x(2, 3, 2), x(7, 1, 7)), // not merged
		list(x(0, 2, 5), x(1, 1, 9)), list(x(0, 4, 5), x(1, 1, 9)), list(x(0, 4, 5), x(1, 5, 20)), list(x(0, 2, 5), x(0, 2, 9)), list(x(0, 2, 5), x(0, 2, 5)), // one over the other
		list(x(0, 2, 5), x(1, 3, 6)), // one over the other, though stored alike
		list(x(3, 2, 5), x(0, 1, 9)), // the other order
		list(x(2, 2, 7), x(0, 2, 5)), // the other order, though they would be one
		list(x(0, 9, 5), x(20, 1, 1), x(10, 1, 9)),
		append(singles(4096), x(4096, 1, 0)), make([]api.Extent, 4097), slices.Repeat(list(x(0, 1, 0)), 4097),
	}
	for _, one := range badAlone() {
		l = append(l, list(one))
		l = append(l, list(x(0, 1, 9), one), list(one, x(4095, 1, 9)))
	}
	return l
}

// badAlone is extents that no good list has.
func badAlone() []api.Extent {
	l := []api.Extent{
		{}, x(5, 0, 5), x(5, -1, 5), x(5, math.MinInt, 5), // blocks
		x(-1, 1, 5), x(-1, 2, 5), x(math.MinInt, 1, 5), x(math.MinInt, math.MaxInt, 5), x(-4096, 8192, 5), // lba
		x(5, 1, -1), x(5, 2, -1), x(5, 1, math.MinInt), x(5, math.MaxInt, math.MinInt), x(5, 10, -5), // at
		x(0, 4097, 0), x(1, 4096, 0), x(4095, 2, 0), x(4096, 1, 0), x(4096, 0, 0), x(0, 8192, 0), // beyond the unit
		x(0, 4096, 4097), x(5, 2, 8191), x(5, 1, 8192), x(5, 0, 8192), x(0, 100, 8093), // beyond the device
	}
	for _, v := range []int{1 << 32, 1 << 62, math.MaxInt - 1, math.MaxInt} {
		l = append(l, x(v, 1, 5), x(5, v, 5), x(5, 1, v), x(v, v, 5), x(5, v, v), x(v, 1, v), x(v, v, v))
	}
	return l
}

// unit is where each block of a unit is stored, and -1 if it is not.
type unit [api.MaxBlocks]int

func empty() *unit {
	var u unit
	for i := range u {
		u[i] = -1
	}
	return &u
}

func unitOf(l []api.Extent) *unit {
	u := empty()
	for _, x := range l {
		u.set(x)
	}
	return u
}

func (u *unit) set(x api.Extent) {
	for i := range x.Blocks {
		u[x.Lba+i] = x.At + i
	}
}

func (u *unit) drop(lba, blocks int) {
	for i := range blocks {
		u[lba+i] = -1
	}
}

// list is the one good list for the unit: an extent goes on as long as the next block is stored in the next sector.
func (u *unit) list() []api.Extent {
	var l []api.Extent
	for lba, at := range u {
		if at < 0 {
			continue
		}
		if lba > 0 && u[lba-1] >= 0 && u[lba-1] == at-1 {
			l[len(l)-1].Blocks++
		} else {
			l = append(l, x(lba, 1, at))
		}
	}
	return l
}

func wantList(t *testing.T, what string, l, want []api.Extent, err api.Errno) {
	t.Helper()
	if !slices.Equal(l, want) || err != api.OK {
		t.Fatalf("%s: %v, %v; want %v", what, l[:min(len(l), 9)], err, want[:min(len(want), 9)])
	}
}

func wantRefused(t *testing.T, what string, l []api.Extent, err api.Errno) {
	t.Helper()
	if len(l) != 0 || err != api.ErrExtent {
		t.Errorf("%s: %d extents, %v", what, len(l), err)
	}
}

// P7.1: lists that are good, and those that are not.
func TestGood(t *testing.T) {
	for i, l := range goods() {
		if !Good(l) {
			t.Errorf("good %d: %v", i, l[:min(len(l), 9)])
		}
	}
	for i, l := range bads() {
		if Good(l) {
			t.Errorf("bad %d: %v", i, l[:min(len(l), 9)])
		}
	}
}

// P7.1: a fault is seen wherever it stands in a long list.
func TestGoodAnywhere(t *testing.T) {
	for i := range 100 {
		faults := list(x(i, 0, 5), x(i, -1, 5), x(i, 1, -1), x(i, 1, 8192), x(-1, 1, 5), x(4096, 1, 5))
		if i > 0 {
			faults = append(faults, x(i-1, 1, 5), x(i-1, 2, 5), x(i, 1, singles(i)[i-1].At+1))
		}
		if i < 99 {
			faults = append(faults, x(i+1, 1, 5), x(i, 2, 5))
		}
		for _, fault := range faults {
			l := singles(100)
			l[i] = fault
			if Good(l) {
				t.Errorf("%v at %d", fault, i)
			}
		}
	}
}

// P7.1: all lists of two extents in a small place, by the chapter's words.
func TestGoodPairs(t *testing.T) {
	n := 0
	for i := range 5 * 4 * 4 * 5 * 4 * 4 {
		v := i
		next := func(n int) int {
			v, n = v/n, v%n
			return n
		}
		a, b := x(next(5), next(4), next(4)), x(next(5), next(4), next(4))
		good := a.Blocks >= 1 && b.Blocks >= 1 && a.Lba < b.Lba && b.Lba >= a.Lba+a.Blocks && !(b.Lba == a.Lba+a.Blocks && b.At == a.At+a.Blocks)
		if Good(list(a, b)) != good {
			t.Errorf("%v, %v: %v", a, b, !good)
		}
		if good {
			n++
		}
	}
	if n < 100 {
		t.Errorf("%d good ones", n)
	}
}

// P7.1: every block is found where it is stored, and no other one is.
func TestFind(t *testing.T) {
	for i, l := range goods() {
		for lba, want := range unitOf(l) {
			if len(l) > 1000 && lba%97 != 0 && lba < 4090 {
				continue
			}
			at, ok := Find(l, lba)
			if ok != (want >= 0) || at != max(want, 0) {
				t.Errorf("list %d, block %d: %d, %v, want %d", i, lba, at, ok, want)
			}
		}
		for _, lba := range []int{-1, -2, -4096, 4096, 4097, 1 << 32, 1 << 62, math.MaxInt, math.MinInt} {
			if at, ok := Find(l, lba); at != 0 || ok {
				t.Errorf("list %d, block %d: %d, %v", i, lba, at, ok)
			}
		}
	}
}

// P7.1: of a list that is not good, no block is found and none is used.
func TestFindBad(t *testing.T) {
	for i, l := range bads() {
		for _, lba := range []int{-1, 0, 1, 2, 3, 5, 10, 4095, 4096, math.MaxInt, math.MinInt} {
			if at, ok := Find(l, lba); at != 0 || ok {
				t.Errorf("list %d, block %d: %d, %v", i, lba, at, ok)
			}
		}
		if n := Used(l); n != 0 {
			t.Errorf("list %d: %d used", i, n)
		}
	}
}

// P7.1: blocks that are stored, each counted once for itself, also those in the same sectors.
func TestUsed(t *testing.T) {
	for i, l := range goods() {
		want := 0
		for _, at := range unitOf(l) {
			if at >= 0 {
				want++
			}
		}
		if n := Used(l); n != want {
			t.Errorf("list %d: %d, want %d", i, n, want)
		}
	}
	if n := Used(list(x(0, 3, 5), x(7, 4, 6))); n != 7 {
		t.Error(n)
	}
}

// P7.2: an extent over, beside, within and between others.
func TestSet(t *testing.T) {
	l := list(x(10, 4, 100), x(20, 4, 200))
	for _, z := range []struct {
		x    api.Extent
		want []api.Extent
	}{
		{x(12, 1, 50), list(x(10, 2, 100), x(12, 1, 50), x(13, 1, 103), x(20, 4, 200))},
		{x(10, 4, 50), list(x(10, 4, 50), x(20, 4, 200))},
		{x(9, 6, 50), list(x(9, 6, 50), x(20, 4, 200))},
		{x(8, 4, 50), list(x(8, 4, 50), x(12, 2, 102), x(20, 4, 200))},
		{x(12, 4, 50), list(x(10, 2, 100), x(12, 4, 50), x(20, 4, 200))},
		{x(12, 10, 50), list(x(10, 2, 100), x(12, 10, 50), x(22, 2, 202))},
		{x(0, 4096, 50), list(x(0, 4096, 50))},
		{x(0, 5, 50), list(x(0, 5, 50), x(10, 4, 100), x(20, 4, 200))},
		{x(30, 5, 50), list(x(10, 4, 100), x(20, 4, 200), x(30, 5, 50))},
		{x(16, 2, 50), list(x(10, 4, 100), x(16, 2, 50), x(20, 4, 200))},
		{x(14, 6, 50), list(x(10, 4, 100), x(14, 6, 50), x(20, 4, 200))},
		{x(14, 2, 104), list(x(10, 6, 100), x(20, 4, 200))},                // merged with the one before
		{x(18, 2, 198), list(x(10, 4, 100), x(18, 6, 198))},                // merged with the one behind
		{x(8, 2, 98), list(x(8, 6, 98), x(20, 4, 200))},                    // merged with the first one
		{x(24, 2, 204), list(x(10, 4, 100), x(20, 6, 200))},                // merged with the last one
		{x(14, 2, 103), list(x(10, 4, 100), x(14, 2, 103), x(20, 4, 200))}, // not quite
		{x(15, 2, 104), list(x(10, 4, 100), x(15, 2, 104), x(20, 4, 200))},
		{x(11, 2, 101), l}, {x(10, 4, 100), l}, {x(10, 1, 100), l}, {x(13, 1, 103), l}, // as it was
		{x(12, 4, 102), list(x(10, 6, 100), x(20, 4, 200))},
		{x(8, 4, 98), list(x(8, 6, 98), x(20, 4, 200))},
		{x(11, 2, 102), list(x(10, 1, 100), x(11, 2, 102), x(13, 1, 103), x(20, 4, 200))},
		{x(11, 12, 101), list(x(10, 13, 100), x(23, 1, 203))},
		{x(14, 6, 104), list(x(10, 10, 100), x(20, 4, 200))},
		{x(4095, 1, 8191), list(x(10, 4, 100), x(20, 4, 200), x(4095, 1, 8191))},
		{x(0, 4096, 4096), list(x(0, 4096, 4096))},
	} {
		got, err := Set(l, z.x)
		wantList(t, "Set", got, z.want, err)
	}
	got, err := Set(list(x(10, 4, 100), x(20, 4, 110)), x(14, 6, 104))
	wantList(t, "merged on both sides", got, list(x(10, 14, 100)), err)
	got, err = Set(list(x(10, 2, 100), x(12, 1, 50), x(13, 1, 103)), x(12, 1, 102))
	wantList(t, "made whole", got, list(x(10, 4, 100)), err)
	got, err = Set(nil, x(3, 2, 9))
	wantList(t, "the first one", got, list(x(3, 2, 9)), err)
	got, err = Set(singles(4096), x(4095, 1, 7))
	wantList(t, "as many as there may be", got, append(singles(4095), x(4095, 1, 7)), err)
}

// P7.2: what can't be set, and where nothing can be set.
func TestSetRefused(t *testing.T) {
	for _, bad := range badAlone() {
		for _, l := range [][]api.Extent{nil, list(x(0, 9, 50)), singles(100)} {
			got, err := Set(l, bad)
			wantRefused(t, "extent", got, err)
		}
	}
	for _, l := range bads() {
		for _, one := range []api.Extent{x(0, 1, 9), x(0, 4096, 0), x(50, 4, 7), {}} {
			got, err := Set(l, one)
			wantRefused(t, "list", got, err)
		}
	}
}

// P7.2: blocks dropped at the ends, within and beside extents.
func TestDrop(t *testing.T) {
	l := list(x(10, 4, 100), x(20, 4, 200), x(24, 2, 50))
	for _, z := range []struct {
		lba, blocks int
		want        []api.Extent
	}{
		{10, 4, l[1:]}, {9, 6, l[1:]}, {0, 14, l[1:]}, {24, 2, l[:2]}, {24, 4072, l[:2]}, {14, 12, l[:1]},
		{10, 1, list(x(11, 3, 101), l[1], l[2])}, {13, 1, list(x(10, 3, 100), l[1], l[2])},
		{11, 2, list(x(10, 1, 100), x(13, 1, 103), l[1], l[2])},
		{12, 10, list(x(10, 2, 100), x(22, 2, 202), l[2])}, {23, 2, list(l[0], x(20, 3, 200), x(25, 1, 51))},
		{0, 4096, nil}, {10, 16, nil}, {0, 26, nil}, {11, 4085, list(x(10, 1, 100))}, {0, 25, list(x(25, 1, 51))},
		{0, 10, l}, {14, 6, l}, {26, 4070, l}, {4095, 1, l}, // none of them is stored
		{0, 0, l}, {10, 0, l}, {12, 0, l}, {14, 0, l}, {24, 0, l}, {26, 0, l}, {4095, 0, l}, {4096, 0, l},
	} {
		got, err := Drop(l, z.lba, z.blocks)
		wantList(t, "Drop", got, z.want, err)
	}
	got, err := Drop(nil, 0, 4096)
	wantList(t, "of nothing", got, nil, err)
	got, err = Drop(singles(4096), 4095, 1)
	wantList(t, "the last of many", got, singles(4095), err)
	got, err = Drop(list(x(0, 4096, 4096)), 0, 4095)
	wantList(t, "all but the last", got, list(x(4095, 1, 8191)), err)
}

// P7.2: blocks that can't be dropped, and lists from which none can.
func TestDropRefused(t *testing.T) {
	for _, z := range [][2]int{
		{-1, 1}, {-1, 0}, {-1, 2}, {0, -1}, {5, -1}, {5, -5}, {-1, -1}, {0, 4097}, {1, 4096}, {4095, 2}, {4096, 1}, {4097, 0}, {4097, -1}, {5000, -1000},
		{math.MaxInt, 0}, {math.MaxInt, 1}, {1, math.MaxInt}, {0, math.MaxInt}, {math.MaxInt, math.MaxInt}, {1 << 62, 1 << 62}, {1 << 62, 1},
		{math.MinInt, 0}, {math.MinInt, math.MaxInt}, {0, math.MinInt}, {math.MaxInt, math.MinInt}, {math.MinInt, math.MinInt}, {-4096, 8192},
	} {
		for _, l := range [][]api.Extent{nil, list(x(0, 9, 50)), singles(100)} {
			got, err := Drop(l, z[0], z[1])
			wantRefused(t, "blocks", got, err)
		}
	}
	for _, l := range bads() {
		for _, z := range [][2]int{{0, 0}, {0, 1}, {0, 4096}, {50, 5}, {-1, 1}} {
			got, err := Drop(l, z[0], z[1])
			wantRefused(t, "list", got, err)
		}
	}
}

// P7.2, P7.4: every change of every small unit comes to the good list of what the unit then is.
func TestSmallUnits(t *testing.T) {
	const blocks, kinds = 4, 5
	for i := range kinds * kinds * kinds * kinds {
		u := empty()
		for lba, v := 0, i; lba < blocks; lba, v = lba+1, v/kinds {
			u[lba] = [kinds]int{-1, 20 + lba, 21 + lba, 20, 23 - lba}[v%kinds]
		}
		l := u.list()
		for lba := range blocks + 1 {
			for n := 0; lba+n <= blocks+1; n++ {
				dropped := *u
				dropped.drop(lba, n)
				got, err := Drop(l, lba, n)
				wantList(t, "Drop", got, dropped.list(), err)
				for at := 18; at < 26 && n > 0; at++ {
					after := *u
					after.set(x(lba, n, at))
					got, err := Set(l, x(lba, n, at))
					wantList(t, "Set", got, after.list(), err)
				}
			}
		}
	}
}

// P7.4: through a long life, blocks are found where they were set last, and nowhere once they are dropped.
func TestLife(t *testing.T) {
	rnd := rand.New(rand.NewSource(7))
	u, l := empty(), []api.Extent(nil)
	most := 0
	for step := range 4000 {
		lba := rnd.Intn(api.MaxBlocks)
		n := 1 + rnd.Intn(min(1<<rnd.Intn(8), api.MaxBlocks-lba))
		var err api.Errno
		if rnd.Intn(4) == 0 {
			u.drop(lba, n)
			l, err = Drop(l, lba, n)
		} else {
			// Many are stored with the same distance, so that they come to stand side by side in both.
			one := x(lba, n, lba+[...]int{0, 0, 0, 1, 2000, 4096}[rnd.Intn(6)])
			one.At = min(one.At, api.MaxSectors-n)
			u.set(one)
			l, err = Set(l, one)
		}
		wantList(t, "life", l, u.list(), err)
		if step%100 == 0 {
			wantUnit(t, l, u)
		}
		most = max(most, len(l))
	}
	if most < 200 {
		t.Errorf("at most %d extents", most)
	}
}

func wantUnit(t *testing.T, l []api.Extent, u *unit) {
	t.Helper()
	if !Good(l) {
		t.Fatal("not good")
	}
	used := 0
	for lba := 0; lba < len(u); lba += 7 {
		if at, ok := Find(l, lba); ok != (u[lba] >= 0) || at != max(u[lba], 0) {
			t.Fatalf("block %d: %d, %v, want %d", lba, at, ok, u[lba])
		}
	}
	for _, at := range u {
		if at >= 0 {
			used++
		}
	}
	if n := Used(l); n != used {
		t.Fatalf("%d used, want %d", n, used)
	}
}

// wrote is a text of extents as the chapter's words tell it, whether the list is good or not.
func wrote(l []api.Extent) string {
	b := binary.BigEndian.AppendUint32(nil, uint32(len(l)))
	for _, x := range l {
		for _, v := range []int{x.Lba, x.Blocks, x.At} {
			b = binary.BigEndian.AppendUint32(b, uint32(v))
		}
	}
	return string(b)
}

// P7.3, P7.5: the text of each good list, byte by byte, and the list of it.
func TestText(t *testing.T) {
	for i, l := range goods() {
		s, err := Text(l)
		if s != wrote(l) || err != api.OK {
			t.Errorf("list %d: %d bytes, %v", i, len(s), err)
		}
		back, err := Parse(s)
		if !slices.Equal(back, l) || err != api.OK {
			t.Errorf("list %d: %d of %d extents back, %v", i, len(back), len(l), err)
		}
	}
	s, err := Text(list(x(0x102, 0x304, 0x506), x(0x708, 0x09, 0x1b0c)))
	if s != "\x00\x00\x00\x02\x00\x00\x01\x02\x00\x00\x03\x04\x00\x00\x05\x06\x00\x00\x07\x08\x00\x00\x00\x09\x00\x00\x1b\x0c" || err != api.OK {
		t.Errorf("%x, %v", s, err)
	}
}

// P7.3: no text of a list that is not good.
func TestTextRefused(t *testing.T) {
	for i, l := range bads() {
		if s, err := Text(l); s != "" || err != api.ErrExtent {
			t.Errorf("list %d: %d bytes, %v", i, len(s), err)
		}
	}
}

// P7.3: texts whose numbers make no good list.
func TestParseBad(t *testing.T) {
	for _, l := range bads() {
		// Numbers that do not fit in four bytes have no text.
		fit := !slices.ContainsFunc(l, func(x api.Extent) bool {
			return int(uint32(x.Lba)) != x.Lba || int(uint32(x.Blocks)) != x.Blocks || int(uint32(x.At)) != x.At
		})
		if fit {
			got, err := Parse(wrote(l))
			wantRefused(t, "list", got, err)
		}
	}
	for _, v := range []int{4096, 8192, 1 << 16, 1 << 24, 1<<31 - 1, 1 << 31, 1<<32 - 1} {
		for _, one := range []api.Extent{x(v, 1, 5), x(5, v, 5), x(5, 1, max(v, 8192)), x(v, 1<<32-v, 5), x(5, 1<<32-5, 5)} {
			got, err := Parse(wrote(list(one)))
			wantRefused(t, "great number", got, err)
		}
	}
}

// P7.3: texts that are cut off, go on, or tell another number of extents.
func TestParseRefused(t *testing.T) {
	refused := func(what, s string) {
		t.Helper()
		got, err := Parse(s)
		wantRefused(t, what, got, err)
	}
	for _, n := range []int{0, 1, 2, 5} {
		s := wrote(singles(n))
		for i := range s {
			refused("cut off", s[:i])
		}
		for i := 1; i <= 25; i++ {
			refused("zeros behind", s+strings.Repeat("\x00", i))
		}
		refused("an extent behind", s+wrote(list(x(100, 1, 1)))[4:])
		for i := range 4 {
			for by := 1; by < 256; by++ {
				b := []byte(s)
				b[i] ^= byte(by)
				refused("another number", string(b))
			}
		}
	}
	refused("far too many", "\xff\xff\xff\xff"+wrote(singles(3))[4:])
	refused("one too many", wrote(append(singles(4096), x(4096, 1, 0))))
	refused("the number in the other order", "\x01\x00\x00\x00"+wrote(singles(1))[4:])
}

// P7.3: whatever a text is, its list has this text.
func TestParseMixed(t *testing.T) {
	rnd := rand.New(rand.NewSource(8))
	lists := 0
	for range 20000 {
		l := make([]api.Extent, rnd.Intn(4))
		for i := range l {
			l[i] = x(rnd.Intn(6), rnd.Intn(4), rnd.Intn(6))
		}
		s := []byte(wrote(l))
		if rnd.Intn(3) == 0 {
			s[rnd.Intn(len(s))] = byte(rnd.Intn(256))
		}
		got, err := Parse(string(s))
		if err == api.OK && wrote(got) != string(s) || err != api.OK && (err != api.ErrExtent || len(got) != 0) {
			t.Fatalf("%x: %v, %v", s, got, err)
		}
		if err == api.OK && len(got) > 1 {
			lists++
		}
	}
	if lists < 100 {
		t.Errorf("%d lists", lists)
	}
}

// Arguments stay as they are, with what lies behind them, and no answer shares memory with them.
func TestMemory(t *testing.T) {
	behind := x(77, 7, 777)
	for _, good := range goods() {
		all := append(slices.Clone(good), behind, behind, behind)
		l := all[:len(good)]
		var answers [][]api.Extent
		for _, one := range []api.Extent{x(0, 1, 9), x(4095, 1, 9), x(0, 4096, 9), x(2, 1, 5)} {
			got, _ := Set(l, one)
			answers = append(answers, got)
		}
		for _, z := range [][2]int{{0, 0}, {0, 1}, {4095, 1}, {2, 1}, {4096, 0}} {
			got, _ := Drop(l, z[0], z[1])
			answers = append(answers, got)
		}
		s, _ := Text(l)
		parsed, _ := Parse(s)
		answers = append(answers, parsed)
		Good(l)
		Find(l, 2)
		Used(l)
		if !slices.Equal(all, append(slices.Clone(good), behind, behind, behind)) {
			t.Fatal("an argument is modified")
		}
		before := make([][]api.Extent, len(answers))
		for i, got := range answers {
			before[i] = slices.Clone(got)
		}
		for i, got := range answers {
			got = got[:cap(got)]
			for k := range got {
				got[k] = behind
			}
			for k := i + 1; k < len(answers); k++ {
				if !slices.Equal(answers[k], before[k]) {
					t.Fatalf("answers %d and %d share memory", i, k)
				}
			}
		}
		if !slices.Equal(all, append(slices.Clone(good), behind, behind, behind)) {
			t.Fatal("an answer shares memory with an argument")
		}
	}
}

// What is left is yielded until enough is had.
func TestLeft(t *testing.T) {
	l := list(x(0, 4, 100), x(4, 4, 50), x(10, 2, 70))
	want := list(x(2, 2, 102), x(4, 4, 50), x(10, 1, 70))
	for most := range 4 {
		var got []api.Extent
		for x := range left(l, 2, 11) {
			if len(got) == most {
				break
			}
			got = append(got, x)
		}
		if !slices.Equal(got, want[:most]) {
			t.Errorf("at most %d: %v", most, got)
		}
	}
}
