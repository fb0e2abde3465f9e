package store

import (
	"math/rand"
	"slices"
	"testing"

	"headgate/api"
	"headgate/dev"
)

// act is one change, on a store and on a model.
type act struct {
	kind   byte
	lun    int
	lba    int
	text   string
	ranges []api.Range
}

func (a act) on(s *Store) api.Errno {
	switch a.kind {
	case 'W':
		return s.Write(a.lun, a.lba, a.text)
	case 'C':
		return s.Clear(a.lun, a.ranges)
	}
	return s.Record(a.lun, a.text)
}

func (a act) after(m model) model {
	m = m.copied()
	switch a.kind {
	case 'W':
		m.write(a.lun, a.lba, a.text)
	case 'C':
		m.clear(a.lun, a.ranges)
	default:
		m.records[a.lun] = a.text
	}
	return m
}

// anyAct is a change of any kind that is allowed.
func anyAct(r *rand.Rand, l []api.Unit) act {
	a := act{kind: "WWWWWWCR"[r.Intn(8)], lun: r.Intn(len(l))}
	size := l[a.lun].Blocks
	place := func() (lba, n int) {
		n = r.Intn(min(size, 64) + 1)
		if r.Intn(2) == 0 {
			n = min(n, 2)
		}
		return r.Intn(size - n + 1), n
	}
	switch a.kind {
	case 'W':
		lba, n := place()
		a.lba, a.text = lba, blocks(r.Int(), n)
	case 'C':
		for range r.Intn(4) {
			lba, n := place()
			a.ranges = append(a.ranges, api.Range{Lba: lba, Blocks: n})
		}
	default:
		a.text = noise(r.Int(), r.Intn(2049))
	}
	return a
}

// life is a store, its device, and its states in the chapter's words.
type life struct {
	t      *testing.T
	r      *rand.Rand
	d      *dev.Dev
	s      *Store
	l      []api.Unit
	states []model
	safe   int
}

func newLife(t *testing.T, r *rand.Rand, l []api.Unit, spare int) *life {
	t.Helper()
	d := device(t, needed(l)+spare)
	s, err := Format(d, l)
	wantErr(t, "Format", err, api.OK)
	return &life{t: t, r: r, d: d, s: s, l: l, states: []model{modelOf(l)}}
}

func (l *life) last() model { return l.states[len(l.states)-1] }

// change makes a change, and tells whether the device has stayed up.
func (l *life) change(a act) bool {
	l.t.Helper()
	l.states = append(l.states, a.after(l.last()))
	err := a.on(l.s)
	return l.held(err)
}

// held holds a call's error against the device: the only one that there may be is that it is down.
func (l *life) held(err api.Errno) bool {
	l.t.Helper()
	if err != api.OK && err != api.ErrDown || l.d.Down() != (err == api.ErrDown) {
		l.t.Fatalf("%v, and the device is down: %v", err, l.d.Down())
	}
	return err == api.OK
}

func (l *life) flush() bool {
	l.t.Helper()
	ok := l.held(l.s.Flush())
	if ok {
		l.safe = len(l.states) - 1
	}
	return ok
}

// crash lets the power go and come again: the state is then one of those since the last safe one, and is safe.
func (l *life) crash(keep []int) {
	l.t.Helper()
	l.d.Crash(keep)
	l.s = open(l.t, l.d)
	was := told(l.t, l.s)
	i := slices.IndexFunc(l.states[l.safe:], func(m model) bool { return m.told() == was })
	if i < 0 {
		l.t.Fatalf("no state that may be left, of %d", len(l.states)-l.safe)
	}
	l.states, l.safe = l.states[l.safe+i:][:1], 0
	if l.r.Intn(3) == 0 {
		l.d.Crash(nil)
		l.s = open(l.t, l.d)
		wantTold(l.t, "opened is not safe", l.s, l.last())
	}
}

// anyKeep is what a crash keeps: all, nothing, some whole, some torn.
func anyKeep(r *rand.Rand, n int) []int {
	keep := make([]int, n)
	all := []int{0, 512, r.Intn(513)}[r.Intn(3)]
	for i := range keep {
		keep[i] = []int{all, all, 0, 512, r.Intn(513), 504 + r.Intn(9)}[r.Intn(6)]
	}
	return keep
}

// reopen opens the store without a crash, if the device stays up.
func (l *life) reopen() bool {
	l.t.Helper()
	s, err := Open(l.d)
	if !l.held(err) {
		return false
	}
	l.s, l.states, l.safe = s, l.states[len(l.states)-1:], 0
	wantTold(l.t, "opened", s, l.last())
	return true
}

// step is one call of any kind, and tells whether the device has stayed up.
func (l *life) step() bool {
	l.t.Helper()
	switch l.r.Intn(14) {
	case 0:
		return l.flush()
	case 1:
		return l.reopen()
	case 2, 3:
		l.d.Arm(l.r.Intn(30))
	case 4:
		wantTold(l.t, "changed", l.s, l.last())
	case 5:
		return false
	default:
		return l.change(anyAct(l.r, l.l))
	}
	return true
}

// P8.1, P8.3: long lives with crashes at any operation and between calls, any writes lost, kept or torn.
func TestLives(t *testing.T) {
	lists := [][]api.Unit{unitsOf(1), unitsOf(2, 1), unitsOf(4), unitsOf(20, 3), unitsOf(70), unitsOf(1, 2, 3, 4, 5, 6, 7, 8)}
	for seed := range 240 {
		r := rand.New(rand.NewSource(int64(seed)))
		l := newLife(t, r, lists[seed%len(lists)], seed%3)
		for range 100 {
			if !l.step() {
				l.crash(anyKeep(r, l.d.Held()))
			}
		}
		l.crash(nil)
		if !slices.Equal(l.s.Units(), l.l) {
			t.Fatal("other units")
		}
	}
}

// acts is changes that go over the same few blocks again and again, so that their former sectors are wanted soon.
func acts() []act {
	w := func(lun, lba, seed, n int) act {
		return act{kind: 'W', lun: lun, lba: lba, text: blocks(seed, n)}
	}
	return []act{
		w(0, 0, 1, 3), w(0, 1, 2, 2), w(1, 0, 3, 1), {kind: 'C', ranges: []api.Range{{Lba: 2, Blocks: 1}, {Lba: 0, Blocks: 1}}},
		w(0, 0, 4, 2), {kind: 'R', lun: 1, text: noise(5, 600)}, w(0, 0, 6, 3), w(0, 0, 7, 3), w(1, 0, 8, 1), w(1, 0, 9, 1),
		{kind: 'R', lun: 1, text: ""}, {kind: 'C', lun: 1, ranges: []api.Range{{Lba: 0, Blocks: 1}}}, w(0, 2, 10, 1), w(0, 0, 11, 2),
	}
}

// P8.1, P8.3: changes that go down with any operation, with and without flushes in between, on a store that is just large
// enough, also where a new base is due; afterwards the store goes on.
func TestEveryOperation(t *testing.T) {
	for _, x := range []struct{ fill, flushEach, turns int }{{0, 0, 8}, {0, 1, 4}, {0, 2, 4}, {0, 3, 4}, {0, 5, 4}, {55, 0, 4}, {55, 3, 2}} {
		through := false
		for ops := 0; !through; ops++ {
			for turn := range x.turns {
				r := rand.New(rand.NewSource(int64(ops*8 + turn)))
				l := newLife(t, r, unitsOf(3, 1), 0)
				for i := range x.fill {
					l.change(act{kind: 'R', text: noise(i, 2048)})
				}
				l.states, l.safe = []model{l.last()}, 0
				if !l.flush() {
					t.Fatal("down at once")
				}
				l.d.Arm(ops)
				through = l.run(acts(), x.flushEach)
				if n := len(l.s.journal.Records()); through && x.fill > 0 && n > x.fill {
					t.Error("no new base", n)
				}
				l.crash([][]int{nil, anyKeep(r, l.d.Held())}[min(turn, 1)])
				l.run(acts(), 0)
				wantTold(t, "gone on", l.s, l.last())
			}
		}
	}
}

// run makes changes until one goes down, and flushes after so many of them; it tells whether none has gone down.
func (l *life) run(acts []act, flushEach int) bool {
	l.t.Helper()
	for i, a := range acts {
		if !l.change(a) || flushEach > 0 && i%flushEach == flushEach-1 && !l.flush() {
			return false
		}
	}
	return true
}

// P8.3: a change that goes down with any operation, with any one of its writes torn at any place, is made or not made as a
// whole.
func TestTorn(t *testing.T) {
	for i, a := range []act{
		{kind: 'W', lba: 1, text: blocks(9, 3)}, {kind: 'C', ranges: []api.Range{{Lba: 0, Blocks: 2}, {Lba: 4, Blocks: 1}}}, {kind: 'R', text: noise(9, 1500)},
	} {
		seen := map[string]bool{}
		through := false
		for ops := 0; !through; ops++ {
			for at := 0; at <= 512; at += 8 {
				for k := range 3 {
					r := rand.New(rand.NewSource(1))
					l := newLife(t, r, unitsOf(5), 0)
					l.change(act{kind: 'W', text: blocks(1, 5)})
					l.change(act{kind: 'R', text: "before"})
					l.flush()
					l.d.Arm(ops)
					through = l.change(a)
					keep := slices.Repeat([]int{512 * (k % 2)}, l.d.Held())
					if len(keep) > 0 {
						keep[at/8%len(keep)] = at
					}
					l.crash(keep)
					seen[l.last().told()] = true
				}
			}
		}
		if len(seen) != 2 {
			t.Errorf("change %d: %d states", i, len(seen))
		}
	}
}

// P8.3: the chapter's example.
func TestExample(t *testing.T) {
	for _, keep := range [][]int{{512}, nil, {0, 512}, {512, 512}, {300}, {0, 0, 0, 512}} {
		d, s := format(t, unitsOf(4))
		wantErr(t, "write", s.Write(0, 1, blocks(1, 2)), api.OK)
		wantErr(t, "flush", s.Flush(), api.OK)
		wantErr(t, "write", s.Write(0, 1, blocks(2, 2)), api.OK)
		d.Crash(keep)
		if got, err := open(t, d).Read(0, 1, 2); err != api.OK || got != blocks(1, 2) && got != blocks(2, 2) {
			t.Errorf("keep %v: one block is new, the other one old", keep)
		}
	}
}

// P8.1: what was flushed survives all that comes after it, however often the power goes.
func TestFlushed(t *testing.T) {
	d, s := format(t, unitsOf(6))
	m := modelOf(unitsOf(6))
	for i := range 300 {
		lba, n := i%4, 1+i%3
		wantErr(t, "write", s.Write(0, lba, blocks(i, n)), api.OK)
		m.write(0, lba, blocks(i, n))
		if i%10 != 9 {
			continue
		}
		wantErr(t, "flush", s.Flush(), api.OK)
		for ops := range i % 7 {
			d.Arm(ops)
			s.Write(0, 0, blocks(-i, 5))
			d.Crash(nil)
			s = open(t, d)
			if told(t, s) != m.told() {
				m.write(0, 0, blocks(-i, 5))
				wantTold(t, "crashed", s, m)
			}
		}
	}
}

// wantFailed holds that a store that has had an error of the device refuses all, and tells of its units what it told before.
func wantFailed(t *testing.T, s *Store, l []api.Unit, m model) {
	t.Helper()
	for range 2 {
		for lun, u := range l {
			for _, n := range []int{0, 1, u.Blocks} {
				if got, err := s.Read(lun, 0, n); got != "" || err != api.ErrDown {
					t.Errorf("Read: %v", err)
				}
				wantErr(t, "write", s.Write(lun, 0, blocks(1, n)), api.ErrDown)
				wantErr(t, "clear", s.Clear(lun, []api.Range{{Lba: 0, Blocks: n}}), api.ErrDown)
			}
			if r, err := s.Recorded(lun); r != "" || err != api.ErrDown {
				t.Errorf("Recorded: %v", err)
			}
			wantErr(t, "clear", s.Clear(lun, nil), api.ErrDown)
			wantErr(t, "record", s.Record(lun, ""), api.ErrDown)
			wantErr(t, "record", s.Record(lun, noise(1, 2048)), api.ErrDown)
			wantErr(t, "flush", s.Flush(), api.ErrDown)
			wantArguments(t, s, lun, u.Blocks)
			if s.Used(lun) != m.used(lun) {
				t.Errorf("%d used, want %d", s.Used(lun), m.used(lun))
			}
		}
		if !slices.Equal(s.Units(), l) {
			t.Error("other units")
		}
	}
}

// wantArguments holds that errors of the arguments are told, whatever the device does.
func wantArguments(t *testing.T, s *Store, lun, size int) {
	t.Helper()
	for _, n := range []int{-1, size + 1} {
		_, err := s.Read(lun, 0, n)
		wantErr(t, "read", err, api.ErrRange)
		wantErr(t, "write", s.Write(lun, n, ""), api.ErrRange)
		wantErr(t, "clear", s.Clear(lun, []api.Range{{Lba: n}}), api.ErrRange)
	}
	wantErr(t, "write", s.Write(lun, 0, "abc"), api.ErrRange)
	wantErr(t, "clear", s.Clear(lun, make([]api.Range, 17)), api.ErrMany)
	wantErr(t, "record", s.Record(lun, noise(1, 2049)), api.ErrLong)
}

// P8.3: after an error of the device in any call with any operation, all calls are refused until the store is opened again.
func TestFailed(t *testing.T) {
	l := unitsOf(5, 2)
	calls := append(acts(), act{kind: 'F'})
	for i := range calls {
		a := calls[i]
		if a.kind == 'W' {
			a.lun, a.lba = 0, a.lba%2
		}
		count := 0
		for ops := range 10 {
			d, s := format(t, l)
			m := modelOf(l)
			wantErr(t, "write", s.Write(0, 2, blocks(1, 2)), api.OK)
			m.write(0, 2, blocks(1, 2))
			d.Arm(ops)
			err := s.Flush
			if a.kind != 'F' {
				err = func() api.Errno { return a.on(s) }
			}
			if err() == api.OK {
				continue
			}
			count++
			wantFailed(t, s, l, m)
			d.Crash(nil)
			was := d.Ops()
			wantFailed(t, s, l, m)
			if d.Ops() != was {
				t.Error("a store that refuses all uses its device")
			}
			wantErr(t, "opened again", open(t, d).Write(0, 0, blocks(1, 2)), api.OK)
		}
		if count == 0 {
			t.Errorf("call %d never went down", i)
		}
	}
}

// P8.2, P8.3: a device that has gone down elsewhere is seen by each call, also by those that need nothing of it.
func TestDownElsewhere(t *testing.T) {
	l := unitsOf(3, 2)
	for i, first := range []func(s *Store) api.Errno{
		func(s *Store) api.Errno { _, err := s.Read(0, 0, 0); return err },
		func(s *Store) api.Errno { _, err := s.Read(0, 0, 1); return err },
		func(s *Store) api.Errno { _, err := s.Read(0, 0, 3); return err },
		func(s *Store) api.Errno { _, err := s.Recorded(1); return err },
		func(s *Store) api.Errno { return s.Write(0, 0, "") },
		func(s *Store) api.Errno { return s.Write(0, 0, block(1)) },
		func(s *Store) api.Errno { return s.Clear(0, nil) },
		func(s *Store) api.Errno { return s.Record(0, "") },
		func(s *Store) api.Errno { return s.Flush() },
	} {
		for wrote := range 2 {
			d, s := format(t, l)
			m := modelOf(l)
			if wrote == 1 {
				wantErr(t, "write", s.Write(0, 1, blocks(1, 2)), api.OK)
				m.write(0, 1, blocks(1, 2))
			}
			down(d)
			wantArguments(t, s, 0, 3)
			if err := first(s); err != api.ErrDown {
				t.Errorf("call %d: %v", i, err)
			}
			d.Crash(nil)
			wantFailed(t, s, l, m)
		}
	}
}

// P8.1: a device that goes down while a store is made or opened is told as such.
func TestDownWithin(t *testing.T) {
	for ops := range 40 {
		d := device(t, 600)
		d.Arm(ops)
		s, err := Format(d, unitsOf(5))
		if (err == api.OK) == d.Down() || (s == nil) != d.Down() || d.Down() && err != api.ErrDown {
			t.Errorf("Format after %d operations: %v", ops, err)
		}
		if err != api.OK {
			continue
		}
		d.Arm(ops % 3)
		if s, err := Open(d); (err == api.OK) == d.Down() || (s == nil) != d.Down() || d.Down() && err != api.ErrDown {
			t.Errorf("Open after %d operations: %v", ops, err)
		}
	}
}
