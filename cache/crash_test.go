package cache

import (
	"math/rand"
	"slices"
	"testing"

	"headgate/api"
	"headgate/dev"
)

// anyKeep is what a crash keeps: all, nothing, some whole, some torn.
func anyKeep(r *rand.Rand, n int) []int {
	keep := make([]int, n)
	all := []int{0, 512, r.Intn(513)}[r.Intn(3)]
	for i := range keep {
		keep[i] = []int{all, all, 0, 512, r.Intn(513), 504 + r.Intn(9)}[r.Intn(6)]
	}
	return keep
}

// life is a cache, its device, and its visible states in the chapter's words.
type life struct {
	t      *testing.T
	r      *rand.Rand
	d      *dev.Dev
	c      *Cache
	l      []api.Unit
	most   int
	states []state
	safe   int
}

func newLife(t *testing.T, seed int, most int, l []api.Unit) *life {
	t.Helper()
	d, c := made(t, most, l)
	return &life{t: t, r: rand.New(rand.NewSource(int64(seed))), d: d, c: c, l: l, most: most, states: []state{stateOf(l)}}
}

func (l *life) last() state { return l.states[len(l.states)-1] }

// do makes a call, and tells whether the device has stayed up. The states go on also where it has not, since the crash may
// have come after the change.
func (l *life) do(a act) bool {
	l.t.Helper()
	l.states = append(l.states, l.last().after(a))
	err := a.on(l.c)
	if err != api.OK && err != api.ErrDown || l.d.Down() && err == api.OK && l.c.Dirty() == 0 {
		l.t.Fatalf("%c: %v, and the device is down: %v", a.kind, err, l.d.Down())
	}
	if err == api.OK && (a.kind == 'F' || a.kind == 'R' || a.fua) {
		l.safe = len(l.states) - 1
	}
	return err == api.OK
}

// crash lets the power go and come again: the blocks are then those after one of the changes since the last flushed one.
func (l *life) crash(keep []int) {
	l.t.Helper()
	l.d.Crash(keep)
	s := opened(l.t, l.d)
	i := slices.IndexFunc(l.states[l.safe:], func(x state) bool { return x.is(l.t, s) })
	if i < 0 {
		l.t.Fatalf("no state that may be left, of %d", len(l.states)-l.safe)
	}
	l.states, l.safe = l.states[l.safe+i:][:1], 0
	l.c = cacheOf(l.t, s, l.most)
}

// P9.5: long lives with crashes at any operation and between calls, any writes lost, kept or torn.
func TestCrashes(t *testing.T) {
	lists := [][]api.Unit{unitsOf(1), unitsOf(4, 1), unitsOf(20), unitsOf(70), unitsOf(1, 2, 3, 4, 5, 6, 7, 8)}
	mosts := []int{0, 2, 9, 256}
	for seed := range 100 {
		l := newLife(t, seed, mosts[seed%len(mosts)], lists[seed%len(lists)])
		for range 120 {
			up := true
			switch l.r.Intn(12) {
			case 0:
				l.d.Arm(l.r.Intn(60))
			case 1:
				up = false
			default:
				up = l.do(anyAct(l.r, l.l))
			}
			if !up {
				l.crash(anyKeep(l.r, l.d.Held()))
			}
		}
		l.crash(nil)
	}
}

// acts is changes that go over the same few blocks, with all ways to flush among them.
func acts() []act {
	w := func(lba, seed, n int) act { return act{kind: 'W', lba: lba, text: blocks(seed, n)} }
	return []act{
		w(0, 1, 3), w(1, 2, 1), {kind: 'C', ranges: []api.Range{{Lba: 2, Blocks: 1}, {Lba: 0, Blocks: 1}}}, {kind: 'F'}, w(0, 3, 2), w(2, 4, 1),
		{kind: 'R', lun: 1, text: "one"}, w(1, 5, 2), {kind: 'W', lun: 1, text: blocks(6, 1), fua: true}, w(0, 7, 1), w(2, 8, 1),
		{kind: 'R', text: "two"}, w(0, 9, 3), {kind: 'C', lun: 1, ranges: []api.Range{{Lba: 0, Blocks: 1}}}, w(0, 10, 1),
	}
}

// P9.5: calls that go down with any operation.
func TestEveryOperation(t *testing.T) {
	for _, most := range []int{0, 1, 4, 256} {
		through := false
		for ops := 0; !through; ops++ {
			for turn := range 3 {
				l := newLife(t, ops*4+turn, most, unitsOf(3, 1))
				l.d.Arm(ops)
				through = true
				for _, a := range acts() {
					if through = l.do(a); !through {
						break
					}
				}
				l.crash([][]int{nil, slices.Repeat([]int{512}, l.d.Held()), anyKeep(l.r, l.d.Held())}[turn])
				for _, a := range acts() {
					if !l.do(a) {
						t.Fatal("down again")
					}
				}
			}
		}
	}
}

// P9.2: a flush that goes down with any operation: the changes that the store has got are not in the queue any more, the
// others are, and are still read.
func TestInterrupted(t *testing.T) {
	l := unitsOf(12, 2)
	queue := []act{
		{kind: 'W', lba: 0, text: blocks(1, 3)}, {kind: 'W', lba: 2, text: blocks(2, 5)}, {kind: 'C', ranges: []api.Range{{Lba: 1, Blocks: 2}, {Lba: 6, Blocks: 4}}},
		{kind: 'W', lun: 1, text: blocks(3, 2)}, {kind: 'W', lba: 8, text: blocks(4, 4)}, {kind: 'C', lun: 1, ranges: []api.Range{{Lba: 1, Blocks: 1}}},
	}
	for _, last := range []act{{kind: 'F'}, {kind: 'R', text: "record"}, {kind: 'W', lba: 3, text: blocks(5, 2), fua: true}, {kind: 'W', lba: 3, text: blocks(6, 9)}} {
		most, counts := 256, map[int]int{}
		if last.kind == 'W' && !last.fua {
			most = 21
		}
		for ops := 0; ; ops++ {
			d, c := made(t, most, l)
			m := modelOf(l, 256)
			for _, a := range queue {
				wantErr(t, "queue", a.on(c), api.OK)
				m.do(a)
			}
			d.Arm(ops)
			err := last.on(c)
			if err == api.OK {
				break
			}
			wantErr(t, "down", err, api.ErrDown)
			if last.kind == 'W' {
				held := last
				held.fua = false
				m.do(held)
			}
			for len(m.queue) > 0 && m.dirty() > c.Dirty() {
				m.store()
			}
			if m.dirty() != c.Dirty() {
				t.Fatalf("%d blocks are dirty, which no whole changes are", c.Dirty())
			}
			counts[len(m.queue)]++
			for lba := range 12 {
				m.wantRead(t, c, 0, lba, 1, false)
			}
			wantStored(t, d, m, last)
		}
		if len(counts) < 3 {
			t.Errorf("%c: %d lengths of the queue", last.kind, len(counts))
		}
	}
}

// wantStored holds that the store has got what is not in the queue any more, and at most the next change too.
func wantStored(t *testing.T, d *dev.Dev, m *model, last act) {
	t.Helper()
	d.Crash(slices.Repeat([]int{512}, d.Held()))
	s := opened(t, d)
	next := last
	if len(m.queue) > 0 {
		next = m.queue[0]
	}
	if !m.stored.is(t, s) && !m.stored.after(next).is(t, s) {
		t.Error("the queue and the store don't go together")
	}
}
