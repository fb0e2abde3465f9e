package cache

import (
	"math/rand"
	"slices"
	"strings"
	"testing"

	"headgate/api"
	"headgate/dev"
	"headgate/store"
)

func id(i int) string { return "unit " + noise(i, 11) }

func unitsOf(blocks ...int) []api.Unit {
	l := make([]api.Unit, len(blocks))
	for i, n := range blocks {
		l[i] = api.Unit{Blocks: n, Id: id(i)}
	}
	return l
}

// noise is n bytes of all values that show the number they were made from.
func noise(seed, n int) string {
	b := make([]byte, n)
	v := uint64(seed)*2654435761 + 1
	for i := range b {
		v = v*6364136223846793005 + 1442695040888963407
		b[i] = byte(v >> 56)
	}
	return string(b)
}

func blocks(seed, n int) string { return noise(seed, n*512) }

func zeros(n int) string { return strings.Repeat("\x00", n*512) }

func wantErr(t *testing.T, what string, got, want api.Errno) {
	t.Helper()
	if got != want {
		t.Errorf("%s: %v, want %v", what, got, want)
	}
}

// made is a cache in front of a new store, on a device that is just large enough.
func made(t *testing.T, most int, l []api.Unit) (*dev.Dev, *Cache) {
	t.Helper()
	n := 64 + 512
	for _, u := range l {
		n += 2 * u.Blocks
	}
	d, _ := dev.New(n)
	s, err := store.Format(d, l)
	if err != api.OK {
		t.Fatal("Format", err)
	}
	return d, cacheOf(t, s, most)
}

func cacheOf(t *testing.T, s *store.Store, most int) *Cache {
	t.Helper()
	c, err := New(s, most)
	if err != api.OK || c == nil {
		t.Fatal("New", err)
	}
	return c
}

func opened(t *testing.T, d *dev.Dev) *store.Store {
	t.Helper()
	s, err := store.Open(d)
	if err != api.OK {
		t.Fatal("Open", err)
	}
	return s
}

func down(d *dev.Dev) {
	d.Arm(0)
	d.Flush()
}

// act is one call, on a cache and on a model. It is of the kind W, C, R or F.
type act struct {
	kind   byte
	lun    int
	lba    int
	text   string
	fua    bool
	ranges []api.Range
}

func (a act) on(c *Cache) api.Errno {
	switch a.kind {
	case 'W':
		return c.Write(a.lun, a.lba, a.text, a.fua)
	case 'C':
		return c.Clear(a.lun, a.ranges)
	case 'R':
		return c.Record(a.lun, a.text)
	}
	return c.Flush()
}

// blocks is what the act counts for in the queue.
func (a act) blocks() int {
	n := len(a.text) / 512
	if a.kind == 'C' {
		n = 0
	}
	for _, r := range a.ranges {
		n += r.Blocks
	}
	return n
}

// state is the units' blocks and records in the chapter's words: a block that is not stored is empty.
type state struct {
	blocks  [][]string
	records []string
}

func stateOf(l []api.Unit) state {
	s := state{make([][]string, len(l)), make([]string, len(l))}
	for i, u := range l {
		s.blocks[i] = make([]string, u.Blocks)
	}
	return s
}

func (s state) after(a act) state {
	next := state{slices.Clone(s.blocks), slices.Clone(s.records)}
	if a.kind == 'F' {
		return next
	}
	l := slices.Clone(s.blocks[a.lun])
	next.blocks[a.lun] = l
	switch a.kind {
	case 'W':
		for i := range len(a.text) / 512 {
			l[a.lba+i] = a.text[i*512 : (i+1)*512]
		}
	case 'C':
		for _, r := range a.ranges {
			clear(l[r.Lba : r.Lba+r.Blocks])
		}
	case 'R':
		next.records[a.lun] = a.text
	}
	return next
}

func (s state) read(lun, lba, n int) string {
	var b strings.Builder
	for _, x := range s.blocks[lun][lba : lba+n] {
		if x == "" {
			x = zeros(1)
		}
		b.WriteString(x)
	}
	return b.String()
}

func (s state) used(lun int) int {
	n := 0
	for _, x := range s.blocks[lun] {
		if x != "" {
			n++
		}
	}
	return n
}

// is tells whether this is the state of a store.
func (s state) is(t *testing.T, of *store.Store) bool {
	t.Helper()
	for lun, l := range s.blocks {
		data, err := of.Read(lun, 0, len(l))
		record, err2 := of.Recorded(lun)
		if err != api.OK || err2 != api.OK {
			t.Fatal("a store that can't be read", err, err2)
		}
		if data != s.read(lun, 0, len(l)) || record != s.records[lun] || of.Used(lun) != s.used(lun) {
			return false
		}
	}
	return true
}

// model is a cache in the chapter's words.
type model struct {
	stored, seen state
	queue        []act
	most, hits   int
}

func modelOf(l []api.Unit, most int) *model {
	return &model{stored: stateOf(l), seen: stateOf(l), most: most}
}

func (m *model) dirty() int {
	n := 0
	for _, a := range m.queue {
		n += a.blocks()
	}
	return n
}

// store writes the oldest change.
func (m *model) store() {
	m.stored = m.stored.after(m.queue[0])
	m.queue = m.queue[1:]
}

func (m *model) do(a act) {
	m.seen = m.seen.after(a)
	if a.kind == 'W' || a.kind == 'C' {
		m.queue = append(m.queue, a)
		for m.dirty() > m.most {
			m.store()
		}
	}
	if a.kind == 'R' || a.kind == 'F' || a.fua {
		for len(m.queue) > 0 {
			m.store()
		}
	}
	if a.kind == 'R' {
		m.stored = m.stored.after(a)
	}
}

// touches tells whether a change in the queue affects a block.
func (m *model) touches(lun, lba int) bool {
	return slices.ContainsFunc(m.queue, func(a act) bool {
		if a.lun != lun {
			return false
		}
		if a.kind == 'W' {
			return a.lba <= lba && lba < a.lba+a.blocks()
		}
		return slices.ContainsFunc(a.ranges, func(r api.Range) bool { return r.Lba <= lba && lba < r.Lba+r.Blocks })
	})
}

// read is what a Read of a cache whose device is up or down comes to.
func (m *model) read(lun, lba, n int, up bool) (string, api.Errno) {
	if lun < 0 || lun >= len(m.seen.blocks) {
		return "", api.ErrLun
	}
	size := len(m.seen.blocks[lun])
	if lba < 0 || n < 0 || lba > size || n > size-lba {
		return "", api.ErrRange
	}
	hits := 0
	for i := range n {
		if m.touches(lun, lba+i) {
			hits++
		}
	}
	if !up && hits < n {
		return "", api.ErrDown
	}
	m.hits += hits
	return m.seen.read(lun, lba, n), api.OK
}

// wantRead holds one Read against the model.
func (m *model) wantRead(t *testing.T, c *Cache, lun, lba, n int, up bool) {
	t.Helper()
	want, wantErr := m.read(lun, lba, n, up)
	got, err := c.Read(lun, lba, n)
	if got != want || err != wantErr {
		t.Fatalf("Read(%d, %d, %d): %d bytes, %v, want %d, %v (same: %v)", lun, lba, n, len(got), err, len(want), wantErr, got == want)
	}
	if c.Hits() != m.hits {
		t.Fatalf("Read(%d, %d, %d): %d hits, want %d", lun, lba, n, c.Hits(), m.hits)
	}
}

// wantAll holds all that a cache and its store tell against the model.
func (m *model) wantAll(t *testing.T, c *Cache) {
	t.Helper()
	if c.Dirty() != m.dirty() {
		t.Fatalf("dirty: %d, want %d", c.Dirty(), m.dirty())
	}
	if !m.stored.is(t, c.Store()) {
		t.Fatal("the store has another state")
	}
	for lun, l := range m.seen.blocks {
		m.wantRead(t, c, lun, 0, len(l), true)
	}
}

// anyAct is a call of any kind that is allowed.
func anyAct(r *rand.Rand, l []api.Unit) act {
	a := act{kind: "WWWWWWCCRF"[r.Intn(10)], lun: r.Intn(len(l))}
	size := l[a.lun].Blocks
	place := func() (lba, n int) {
		n = r.Intn(min(size, []int{1, 3, 64}[r.Intn(3)]) + 1)
		return r.Intn(size - n + 1), n
	}
	switch a.kind {
	case 'W':
		lba, n := place()
		a.lba, a.text, a.fua = lba, blocks(r.Int(), n), r.Intn(12) == 0
	case 'C':
		for range r.Intn([]int{2, 4, 17}[r.Intn(3)]) {
			lba, n := place()
			a.ranges = append(a.ranges, api.Range{Lba: lba, Blocks: n})
		}
	case 'R':
		if r.Intn(2) == 0 {
			return act{kind: 'F'}
		}
		a.text = noise(r.Int(), r.Intn(2049))
	}
	return a
}
