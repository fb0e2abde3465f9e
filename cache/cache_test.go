package cache

import (
	"math"
	"math/rand"
	"slices"
	"strings"
	"testing"
	"unsafe"

	"headgate/api"
	"headgate/store"
)

var extremes = []int{math.MinInt, math.MinInt + 1, -1 << 32, -257, -256, -2, -1, 1 << 31, 1 << 32, 1<<32 + 1, math.MaxInt - 1, math.MaxInt}

// P9.1: what a cache may be made of, and what it is like at first.
func TestNew(t *testing.T) {
	_, c := made(t, 0, unitsOf(3))
	s := c.Store()
	for _, most := range append([]int{0, 1, 2, 100, 255, 256, 257, 258, 4096}, extremes...) {
		got, err := New(s, most)
		if most < 0 || most > 256 {
			if got != nil || err != api.ErrArg {
				t.Errorf("most %d: %v", most, err)
			}
		} else if got == nil || err != api.OK || got.Dirty() != 0 || got.Hits() != 0 || got.Store() != s {
			t.Errorf("most %d: %v", most, err)
		}
		if got, err := New(nil, most); got != nil || err != api.ErrArg {
			t.Errorf("no store, most %d: %v", most, err)
		}
	}
}

// P9.1: a cache that there is not.
func TestNil(t *testing.T) {
	var c *Cache
	for _, n := range append([]int{0, 1, 65}, extremes...) {
		if got, err := c.Read(n, n, n); got != "" || err != api.ErrArg {
			t.Error("Read", err)
		}
		for _, fua := range []bool{false, true} {
			wantErr(t, "Write", c.Write(n, n, "", fua), api.ErrArg)
			wantErr(t, "Write", c.Write(n, n, blocks(1, 65)+"x", fua), api.ErrArg)
		}
		wantErr(t, "Clear", c.Clear(n, nil), api.ErrArg)
		wantErr(t, "Clear", c.Clear(n, make([]api.Range, 17)), api.ErrArg)
		wantErr(t, "Record", c.Record(n, ""), api.ErrArg)
		wantErr(t, "Record", c.Record(n, noise(1, 2049)), api.ErrArg)
	}
	wantErr(t, "Flush", c.Flush(), api.ErrArg)
	if c.Dirty() != 0 || c.Hits() != 0 || c.Store() != nil {
		t.Error("a cache that there is not tells something")
	}
}

// P9.3: the chapter's example, and how much is held back at both sides of each most.
func TestExample(t *testing.T) {
	_, c := made(t, 2, unitsOf(8))
	wantErr(t, "two blocks", c.Write(0, 0, blocks(1, 2), false), api.OK)
	if c.Dirty() != 2 {
		t.Error(c.Dirty())
	}
	wantErr(t, "one more", c.Write(0, 5, blocks(2, 1), false), api.OK)
	if c.Dirty() != 1 {
		t.Error(c.Dirty())
	}
}

// wantRefused holds an error against that of a store with the same units; it counts nothing and holds nothing back.
func wantRefused(t *testing.T, what string, m *model, c *Cache, got, want api.Errno) {
	t.Helper()
	wantErr(t, what, got, want)
	if c.Dirty() != m.dirty() || c.Hits() != m.hits {
		t.Errorf("%s: an error has changed the queue", what)
	}
}

// P9.2: the errors of arguments are those of the store, ahead of an error of the device, and change nothing.
func TestArguments(t *testing.T) {
	l := unitsOf(70, 3)
	numbers := append([]int{0, 1, 2, 3, 4, 6, 63, 64, 65, 69, 70, 71}, extremes...)
	text := blocks(1, 72)
	for _, up := range []bool{true, false} {
		d, c := made(t, 6, l)
		_, other := made(t, 0, l)
		twin, m := other.Store(), modelOf(l, 6)
		for _, a := range []act{{kind: 'W', lun: 0, lba: 1, text: blocks(1, 3)}, {kind: 'C', lun: 1, ranges: []api.Range{{Lba: 0, Blocks: 2}}}} {
			wantErr(t, "first", a.on(c), api.OK)
			m.do(a)
		}
		if !up {
			down(d)
		}
		for _, lun := range append([]int{0, 1, 2, 3, 7, 8}, extremes...) {
			for _, lba := range numbers {
				for _, n := range numbers {
					if _, want := twin.Read(lun, lba, n); want != api.OK {
						_, err := c.Read(lun, lba, n)
						wantRefused(t, "Read", m, c, err, want)
					}
					ranges := []api.Range{{}, {Lba: lba, Blocks: n}, {Lba: 1}}
					if want := twin.Clear(lun, ranges); want != api.OK {
						wantRefused(t, "Clear", m, c, c.Clear(lun, ranges), want)
					}
					for _, more := range []int{0, 1, 511} {
						data := text[:min(max(n, 0), 71)*512+more]
						if want := twin.Write(lun, lba, data); want != api.OK {
							wantRefused(t, "Write", m, c, c.Write(lun, lba, data, n%2 == 0), want)
						}
					}
				}
			}
		}
		if up {
			m.wantAll(t, c)
		}
	}
}

// P9.2: too many ranges come ahead of wrong ones, and a unit that there is not comes ahead of all.
func TestOrderOfErrors(t *testing.T) {
	d, c := made(t, 6, unitsOf(4, 2))
	wantErr(t, "first", c.Write(0, 0, blocks(1, 2), false), api.OK)
	for range 2 {
		for _, n := range []int{17, 18, 1000} {
			wantErr(t, "many", c.Clear(1, make([]api.Range, n)), api.ErrMany)
			wantErr(t, "many wrong ones", c.Clear(1, slices.Repeat([]api.Range{{Lba: -1, Blocks: 9}}, n)), api.ErrMany)
			wantErr(t, "many of no unit", c.Clear(2, make([]api.Range, n)), api.ErrLun)
			wantErr(t, "long of no unit", c.Record(-1, noise(1, 2048+n)), api.ErrLun)
			wantErr(t, "long", c.Record(0, noise(1, 2032+n)), api.ErrLong)
		}
		wantErr(t, "the last is wrong", c.Clear(1, append(make([]api.Range, 15), api.Range{Lba: 1, Blocks: 2})), api.ErrRange)
		wantErr(t, "no unit", c.Write(2, -1, "x", true), api.ErrLun)
		wantErr(t, "a block too many", c.Write(0, 0, blocks(1, 5), true), api.ErrRange)
		if c.Dirty() != 2 {
			t.Error("an error has changed the queue", c.Dirty())
		}
		down(d)
	}
}

// P9.2: as many ranges, blocks and bytes as there may be.
func TestMost(t *testing.T) {
	l := unitsOf(200, 1)
	for _, most := range []int{0, 63, 64, 65, 256} {
		_, c := made(t, most, l)
		m := modelOf(l, most)
		ranges := make([]api.Range, 16)
		for i := range ranges {
			ranges[i] = api.Range{Lba: i * 9, Blocks: 10}
		}
		for _, a := range []act{
			{kind: 'W', lba: 0, text: blocks(1, 64)}, {kind: 'W', lba: 136, text: blocks(2, 64)}, {kind: 'C', ranges: ranges},
			{kind: 'C', ranges: slices.Repeat([]api.Range{{Lba: 0, Blocks: 200}}, 16)}, {kind: 'W', lba: 60, text: blocks(3, 64)},
			{kind: 'R', text: noise(1, 2048)}, {kind: 'W', lba: 199, text: blocks(4, 1)}, {kind: 'W', lba: 200}, {kind: 'R', lun: 1},
		} {
			wantErr(t, "act", a.on(c), api.OK)
			m.do(a)
			m.wantAll(t, c)
		}
	}
}

// smallActs is all changes of one range of a unit with four blocks.
func smallActs(seed int) []act {
	var l []act
	for lba := range 5 {
		for n := range 5 - lba {
			l = append(l, act{kind: 'W', lba: lba, text: blocks(seed, n)}, act{kind: 'C', ranges: []api.Range{{Lba: lba, Blocks: n}}})
		}
	}
	return l
}

// P9.2, P9.4: any three changes of a small unit, one of them before the queue, and all reads.
func TestVisible(t *testing.T) {
	l := unitsOf(4)
	for i, a := range smallActs(1) {
		_, c := made(t, 256, l)
		for _, b := range smallActs(2) {
			m := modelOf(l, 256)
			acts := []act{{kind: 'C', ranges: []api.Range{{Lba: 0, Blocks: 4}}}, {kind: 'W', lba: i % 3, text: blocks(3, 2)}, {kind: 'F'}, a, b}
			c = cacheOf(t, c.Store(), 256)
			for _, x := range acts {
				wantErr(t, "act", x.on(c), api.OK)
				m.do(x)
			}
			for lba := range 5 {
				for n := range 5 - lba {
					m.wantRead(t, c, 0, lba, n, true)
				}
			}
			m.wantAll(t, c)
		}
	}
}

// P9.2: ranges of one clear that stand in any order, one over the other, and beside a write.
func TestRanges(t *testing.T) {
	l := unitsOf(12)
	_, c := made(t, 256, l)
	m := modelOf(l, 256)
	for _, a := range []act{
		{kind: 'W', lba: 0, text: blocks(1, 12)},
		{kind: 'C', ranges: []api.Range{{Lba: 9, Blocks: 2}, {Lba: 1, Blocks: 3}, {Lba: 2, Blocks: 1}, {Lba: 1, Blocks: 3}, {Lba: 5}, {Lba: 12}}},
		{kind: 'W', lba: 3, text: blocks(2, 7)},
		{kind: 'C', ranges: []api.Range{{Lba: 7, Blocks: 1}, {Lba: 6, Blocks: 1}}},
	} {
		wantErr(t, "act", a.on(c), api.OK)
		m.do(a)
		for lba := range 13 {
			for n := range 13 - lba {
				m.wantRead(t, c, 0, lba, n, true)
			}
		}
		m.wantAll(t, c)
	}
	if c.Dirty() != 12+9+7+2 {
		t.Error(c.Dirty())
	}
}

// P9.2: the same blocks of another unit are other blocks.
func TestUnits(t *testing.T) {
	l := unitsOf(5, 5, 5, 5, 5, 5, 5, 5)
	for _, most := range []int{0, 4, 256} {
		_, c := made(t, most, l)
		m := modelOf(l, most)
		for i := range 40 {
			a := act{kind: 'W', lun: i * 3 % 8, lba: i % 4, text: blocks(i, 2)}
			wantErr(t, "write", a.on(c), api.OK)
			m.do(a)
			m.wantAll(t, c)
		}
	}
}

// P9.2: the oldest changes are written, as whole ones, and no more of them than needed.
func TestSettle(t *testing.T) {
	l := unitsOf(60)
	w := func(lba, seed, n int) act { return act{kind: 'W', lba: lba, text: blocks(seed, n)} }
	for most, want := range map[int][]int{0: {0, 0, 0, 0, 0, 0, 0}, 3: {3, 1, 3, 0, 1, 0, 2}, 4: {3, 4, 3, 0, 1, 0, 2}, 5: {3, 4, 3, 5, 1, 0, 2}, 9: {3, 4, 6, 8, 9, 0, 2}, 12: {3, 4, 6, 11, 12, 0, 2}} {
		_, c := made(t, most, l)
		m := modelOf(l, most)
		acts := []act{w(0, 1, 3), w(2, 2, 1), w(0, 3, 2), w(1, 4, 5), {kind: 'C', ranges: []api.Range{{Lba: 2, Blocks: 1}}}, {kind: 'C', ranges: []api.Range{{Lba: 0, Blocks: 20}}}, w(0, 5, 2)}
		for i, a := range acts {
			wantErr(t, "act", a.on(c), api.OK)
			m.do(a)
			m.wantAll(t, c)
			if c.Dirty() != want[i] {
				t.Errorf("most %d, act %d: %d dirty, want %d", most, i, c.Dirty(), want[i])
			}
		}
	}
}

// P9.2: a change without blocks holds nothing and changes nothing; with fua it still writes and flushes what is held.
func TestEmpty(t *testing.T) {
	l := unitsOf(4)
	for _, most := range []int{0, 3} {
		d, c := made(t, most, l)
		m := modelOf(l, most)
		empty := []act{{kind: 'W', lba: 2}, {kind: 'C'}, {kind: 'C', ranges: []api.Range{{Lba: 1}, {Lba: 4}}}}
		for _, a := range append(empty, act{kind: 'W', lba: 1, text: blocks(1, 2)}, empty[0], empty[1]) {
			wantErr(t, "act", a.on(c), api.OK)
			m.do(a)
			m.wantAll(t, c)
		}
		for range 100000 {
			wantErr(t, "empty", c.Write(0, 4, "", false), api.OK)
			wantErr(t, "empty", c.Clear(0, nil), api.OK)
		}
		if n := cap(c.queue); n > 16 {
			t.Errorf("%d changes without blocks are held", n)
		}
		m.wantAll(t, c)
		a := act{kind: 'W', lba: 4, fua: true}
		wantErr(t, "fua", a.on(c), api.OK)
		m.do(a)
		m.wantAll(t, c)
		d.Crash(nil)
		if !m.seen.is(t, opened(t, d)) {
			t.Error("not flushed")
		}
	}
}

// P9.2: Flush, Record and a write with fua write the whole queue and flush the store.
func TestFlushed(t *testing.T) {
	l := unitsOf(9, 2)
	for _, most := range []int{0, 1, 3, 256} {
		for _, last := range []act{
			{kind: 'F'}, {kind: 'R', lun: 1, text: "text"}, {kind: 'R'}, {kind: 'W', lba: 1, text: blocks(9, 3), fua: true}, {kind: 'W', lun: 1, lba: 1, text: blocks(8, 1), fua: true},
		} {
			d, c := made(t, most, l)
			m := modelOf(l, most)
			for _, a := range []act{
				{kind: 'R', text: "before"}, {kind: 'W', lba: 0, text: blocks(1, 3)}, {kind: 'C', ranges: []api.Range{{Lba: 1, Blocks: 1}}},
				{kind: 'W', lun: 1, text: blocks(2, 1)}, {kind: 'W', lba: 2, text: blocks(3, 4)}, last,
			} {
				wantErr(t, "act", a.on(c), api.OK)
				m.do(a)
			}
			m.wantAll(t, c)
			if c.Dirty() != 0 {
				t.Error(c.Dirty())
			}
			d.Crash(nil)
			if !m.seen.is(t, opened(t, d)) {
				t.Errorf("most %d, %c: not flushed", most, last.kind)
			}
		}
	}
}

// P9.2: a flush of an empty queue flushes what was written to the store before.
func TestFlushOfNothing(t *testing.T) {
	d, c := made(t, 0, unitsOf(3))
	wantErr(t, "behind the cache", c.Store().Write(0, 0, blocks(1, 3)), api.OK)
	wantErr(t, "Flush", c.Flush(), api.OK)
	d.Crash(nil)
	if got, _ := opened(t, d).Read(0, 0, 3); got != blocks(1, 3) {
		t.Error("not flushed")
	}
}

// P9.2: with the device down, reads that need nothing of the store go on, and others count nothing.
func TestReadDown(t *testing.T) {
	l := unitsOf(9, 2)
	d, c := made(t, 256, l)
	m := modelOf(l, 256)
	for _, a := range []act{
		{kind: 'W', lba: 0, text: blocks(1, 9)}, {kind: 'F'}, {kind: 'W', lba: 1, text: blocks(2, 2)},
		{kind: 'C', ranges: []api.Range{{Lba: 5, Blocks: 2}, {Lba: 3, Blocks: 1}}}, {kind: 'W', lba: 6, text: blocks(3, 1)},
	} {
		wantErr(t, "act", a.on(c), api.OK)
		m.do(a)
	}
	down(d)
	for range 2 {
		for lba := range 10 {
			for n := range 10 - lba {
				m.wantRead(t, c, 0, lba, n, false)
			}
		}
		m.wantRead(t, c, 1, 0, 2, false)
		m.wantRead(t, c, 1, 2, 0, false)
		if c.Dirty() != m.dirty() {
			t.Error(c.Dirty())
		}
	}
}

// P9.2: with the device down, changes are held, and an error is told once the store is needed; what it has not got stays in
// the queue.
func TestChangeDown(t *testing.T) {
	l := unitsOf(40)
	d, c := made(t, 4, l)
	m := modelOf(l, 1<<30)
	down(d)
	for i, x := range []struct {
		a     act
		err   api.Errno
		dirty int
	}{
		{act{kind: 'W', lba: 0, text: blocks(1, 2)}, api.OK, 2},
		{act{kind: 'C', ranges: []api.Range{{Lba: 1, Blocks: 2}}}, api.OK, 4},
		{act{kind: 'W', lba: 7}, api.OK, 4},
		{act{kind: 'W', lba: 3, text: blocks(2, 1)}, api.ErrDown, 5},
		{act{kind: 'C', ranges: []api.Range{{Lba: 4, Blocks: 1}, {Lba: 4, Blocks: 1}}}, api.ErrDown, 7},
		{act{kind: 'W', lba: 7}, api.ErrDown, 7},
		{act{kind: 'C'}, api.ErrDown, 7},
		{act{kind: 'W', lba: 5, text: blocks(3, 3), fua: true}, api.ErrDown, 10},
		{act{kind: 'F'}, api.ErrDown, 10},
		{act{kind: 'R', text: "x"}, api.ErrDown, 10},
	} {
		if err := x.a.on(c); err != x.err || c.Dirty() != x.dirty {
			t.Errorf("act %d: %v, %d dirty", i, err, c.Dirty())
		}
		if x.a.kind == 'W' || x.a.kind == 'C' {
			x.a.fua = false
			m.do(x.a)
		}
		for lba := range 10 {
			m.wantRead(t, c, 0, lba, 1, false)
		}
	}
	d, c = made(t, 4, l)
	down(d)
	wantErr(t, "fua that could be held", c.Write(0, 0, blocks(1, 1), true), api.ErrDown)
	d, c = made(t, 4, l)
	down(d)
	wantErr(t, "Flush of nothing", c.Flush(), api.ErrDown)
	wantErr(t, "Record of nothing", c.Record(0, ""), api.ErrDown)
	wantErr(t, "empty, with fua", c.Write(0, 0, "", true), api.ErrDown)
}

// P9.2, P9.3, P9.4: long lives against the chapter's words, with all kinds of caches.
func TestLives(t *testing.T) {
	lists := [][]api.Unit{unitsOf(1), unitsOf(5, 2), unitsOf(70), unitsOf(30, 1, 64), unitsOf(1, 2, 3, 4, 5, 6, 7, 8)}
	mosts := []int{0, 1, 2, 5, 40, 100, 255, 256}
	for seed := range 80 {
		r := rand.New(rand.NewSource(int64(seed)))
		l, most := lists[seed%len(lists)], mosts[seed%len(mosts)]
		_, c := made(t, most, l)
		m := modelOf(l, most)
		for range 120 {
			a := anyAct(r, l)
			wantErr(t, "act", a.on(c), api.OK)
			m.do(a)
			lun := r.Intn(len(l))
			lba := r.Intn(l[lun].Blocks + 1)
			m.wantRead(t, c, lun, lba, r.Intn(l[lun].Blocks-lba+1), true)
			if c.Dirty() != m.dirty() {
				t.Fatalf("dirty: %d, want %d", c.Dirty(), m.dirty())
			}
		}
		m.wantAll(t, c)
	}
}

// P9.4: what is read is the same, whatever most is.
func TestWhateverMost(t *testing.T) {
	l := unitsOf(20, 6)
	var caches []*Cache
	for _, most := range []int{0, 1, 2, 3, 7, 30, 256} {
		_, c := made(t, most, l)
		caches = append(caches, c)
	}
	r := rand.New(rand.NewSource(1))
	for range 200 {
		a := anyAct(r, l)
		lun := r.Intn(2)
		seen := ""
		for i, c := range caches {
			wantErr(t, "act", a.on(c), api.OK)
			got, err := c.Read(lun, 0, l[lun].Blocks)
			if i > 0 && got != seen || err != api.OK {
				t.Fatal("another cache reads something else", err)
			}
			seen = got
		}
	}
}

// P9.2: what is kept is neither the caller's slice nor handed out, and what was written is not kept.
func TestMemory(t *testing.T) {
	_, c := made(t, 256, unitsOf(8))
	l := make([]api.Range, 1, 4)
	l[0] = api.Range{Lba: 1, Blocks: 2}
	data := blocks(1, 8)
	wantErr(t, "write", c.Write(0, 0, data, false), api.OK)
	wantErr(t, "clear", c.Clear(0, l), api.OK)
	l[0] = api.Range{Lba: -5, Blocks: 1 << 40}
	if l = l[:4]; l[1] != (api.Range{}) || l[3] != (api.Range{}) {
		t.Error("the slice's spare capacity was written to")
	}
	want := data[:512] + zeros(2) + data[3*512:]
	got, _ := c.Read(0, 0, 8)
	again, _ := c.Read(0, 0, 8)
	if got != want || again != want || c.Dirty() != 10 {
		t.Error("the caller's slice is kept", c.Dirty())
	}
	for _, x := range []string{data, again, c.queue[0].data} {
		if unsafe.StringData(got) == unsafe.StringData(x) {
			t.Error("memory is shared")
		}
	}
	if unsafe.StringData(data) == unsafe.StringData(c.queue[0].data) {
		t.Error("the caller's text is kept, of which the data may be a small piece")
	}
	wantErr(t, "flush", c.Flush(), api.OK)
	if got, _ := c.Store().Read(0, 0, 8); got != want {
		t.Error("the store got something else")
	}
	c = cacheOf(t, c.Store(), 3)
	for i := range 2000 {
		wantErr(t, "write", c.Write(0, i%8, blocks(i, 1), false), api.OK)
		if n := cap(c.queue); i >= 3 && n != 3 {
			t.Fatalf("%d changes are kept, of 3", n)
		}
	}
}

// P9.1: a store that holds nothing has no units.
func TestNoUnits(t *testing.T) {
	c, err := New(new(store.Store), 1)
	wantErr(t, "New", err, api.OK)
	_, err = c.Read(0, 0, 0)
	wantErr(t, "Read", err, api.ErrLun)
	wantErr(t, "Write", c.Write(0, 0, strings.Repeat("x", 512), true), api.ErrLun)
	wantErr(t, "Clear", c.Clear(0, nil), api.ErrLun)
	wantErr(t, "Record", c.Record(0, ""), api.ErrLun)
	wantErr(t, "Flush", c.Flush(), api.ErrArg)
}
