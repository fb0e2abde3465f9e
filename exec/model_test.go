package exec

import (
	"math/rand"
	"reflect"
	"slices"
	"strings"
	"testing"

	"headgate/access"
	"headgate/api"
	"headgate/cache"
	"headgate/dev"
	"headgate/image"
	"headgate/names"
	"headgate/resv"
	"headgate/store"
	"headgate/units"
)

// noise is n bytes of all values that show the number they were made from.
func noise(seed, n int) string {
	b := make([]byte, n)
	v := uint64(seed)*2654435761 + 1
	for i := range b {
		v = v*6364136223846793005 + 1442695040888963407
		b[i] = byte(v >> 56)
	}
	return string(b)
}

func blocks(seed, n int) string { return noise(seed, n*512) }

func zeros(n int) string { return strings.Repeat("\x00", n*512) }

// formatted is a device that is just large enough for units with so many blocks, with a store of them.
func formatted(t *testing.T, sizes ...int) *dev.Dev {
	t.Helper()
	n := 64 + 512
	var l []api.Unit
	for i, size := range sizes {
		n += 2 * size
		l = append(l, api.Unit{Blocks: size, Id: noise(i, 16)})
	}
	d, _ := dev.New(n)
	if _, err := store.Format(d, l); err != api.OK {
		t.Fatal("Format", err)
	}
	return d
}

// cached is a cache in front of the store of a device.
func cached(t *testing.T, d *dev.Dev, most int) *cache.Cache {
	t.Helper()
	s, err := store.Open(d)
	if err != api.OK {
		t.Fatal("Open", err)
	}
	c, err := cache.New(s, most)
	if err != api.OK {
		t.Fatal("cache.New", err)
	}
	return c
}

func execOf(t *testing.T, c *cache.Cache) *Exec {
	t.Helper()
	x, err := New(c)
	if err != api.OK || x == nil {
		t.Fatal("New", err)
	}
	return x
}

func down(d *dev.Dev) {
	d.Arm(0)
	d.Flush()
}

// model is an executor in the chapter's words, in front of a cache and a device of its own.
type model struct {
	d      *dev.Dev
	c      *cache.Cache
	tables []api.Table
	told   *units.Units
}

func modelOf(t *testing.T, d *dev.Dev, c *cache.Cache) *model {
	t.Helper()
	m := &model{d: d, c: c, told: units.New()}
	for lun := range c.Store().Units() {
		text, err := c.Store().Recorded(lun)
		if err != api.OK {
			t.Fatal("Recorded", err)
		}
		m.tables = append(m.tables, initial(text))
	}
	return m
}

// initial is the table of a unit with this record.
func initial(record string) api.Table {
	if t, err := image.Decode(record); err == api.OK {
		return resv.Power(t)
	}
	return api.Table{}
}

func (m *model) size(lun int) int { return m.c.Store().Units()[lun].Blocks }

// lacks tells that some of these blocks are not there.
func (m *model) lacks(lun, lba, n int) bool {
	size := m.size(lun)
	return lba < 0 || n < 0 || lba > size || n > size || lba+n > size
}

func done(err api.Errno) api.Out {
	if err == api.ErrDown || err == api.ErrFull {
		return api.Out{Code: api.Broken}
	}
	if err != api.OK {
		return api.Out{} // nothing that the chapter knows
	}
	return api.Out{Code: api.Good}
}

// do is P14.2.
func (m *model) do(c api.Cmd) api.Out {
	if c.Op < 1 || c.Op > 15 || !names.Name(c.Host) {
		return api.Out{Code: api.Wrong}
	}
	if c.Lun < 0 || c.Lun >= len(m.tables) {
		return api.Out{Code: api.NoUnit}
	}
	t := m.tables[c.Lun]
	if !access.May(t, c.Host, c.Op) {
		return api.Out{Code: api.Conflict}
	}
	switch c.Op {
	case api.OpReady:
		return api.Out{Code: api.Good}
	case api.OpSize:
		return api.Out{Code: api.Good, N: m.size(c.Lun)}
	case api.OpFlush:
		return done(m.c.Flush())
	case api.OpKeys:
		return api.Out{Code: api.Good, Regs: t.Regs, Gen: t.Gen}
	case api.OpHolder:
		if t.Hold.Type == 0 {
			return api.Out{Code: api.Good, Gen: t.Gen}
		}
		return api.Out{Code: api.Good, Regs: t.Regs, Hold: t.Hold, Gen: t.Gen}
	case api.OpRegister, api.OpReserve, api.OpRelease, api.OpClear, api.OpPreempt:
		return m.doTable(c)
	}
	return m.doBlocks(c)
}

// doBlocks are the operations that are about blocks.
func (m *model) doBlocks(c api.Cmd) api.Out {
	n, wrong := c.Blocks, false
	switch c.Op {
	case api.OpRead:
		wrong = n < 0 || n > 64
	case api.OpWrite:
		n = len(c.Data) / 512
		wrong = len(c.Data)%512 != 0 || n > 64
	case api.OpZero:
		wrong = n < 0 || n > 4096
	case api.OpUnmap:
		wrong = len(c.Ranges) > 16
	case api.OpCompare:
		n = len(c.Data) / 1024
		wrong = len(c.Data)%1024 != 0 || 2*n > 64
	}
	if wrong {
		return api.Out{Code: api.Wrong}
	}
	l := []api.Range{{Lba: c.Lba, Blocks: n}}
	if c.Op == api.OpUnmap {
		l = c.Ranges
	}
	for _, r := range l {
		if m.lacks(c.Lun, r.Lba, r.Blocks) {
			return api.Out{Code: api.Beyond}
		}
	}
	switch c.Op {
	case api.OpWrite:
		return done(m.c.Write(c.Lun, c.Lba, c.Data, c.Fua))
	case api.OpZero, api.OpUnmap:
		return done(m.c.Clear(c.Lun, l))
	}
	data, err := m.c.Read(c.Lun, c.Lba, n)
	if err != api.OK {
		return done(err)
	}
	if c.Op == api.OpRead {
		return api.Out{Code: api.Good, Data: data}
	}
	for i := range len(data) {
		if data[i] != c.Data[i] {
			return api.Out{Code: api.Differ, At: i}
		}
	}
	return done(m.c.Write(c.Lun, c.Lba, c.Data[n*512:], false))
}

// doTable are the operations on the table.
func (m *model) doTable(c api.Cmd) api.Out {
	old := m.tables[c.Lun]
	t, events, code := resv.Do(old, c)
	if code != api.Good || sameTable(t, old) {
		return api.Out{Code: code}
	}
	err := api.OK
	if t.Aptpl {
		text, _ := image.Encode(t)
		err = m.c.Record(c.Lun, text)
	} else if old.Aptpl {
		err = m.c.Record(c.Lun, "")
	}
	if err == api.OK {
		m.tables[c.Lun] = t
		for _, e := range events {
			m.told.Add(c.Lun, e.Host, e.Why)
		}
	}
	return done(err)
}

func sameTable(x, y api.Table) bool {
	return slices.Equal(x.Regs, y.Regs) && x.Hold == y.Hold && x.Gen == y.Gen && x.Aptpl == y.Aptpl
}

// sameOut takes a nil list for an empty one.
func sameOut(x, y api.Out) bool {
	sameRegs := slices.Equal(x.Regs, y.Regs)
	x.Regs, y.Regs = nil, nil
	return sameRegs && reflect.DeepEqual(x, y)
}

// both are an executor and its model, which are given the same commands, on devices to which the same happens.
type both struct {
	d    *dev.Dev
	x    *Exec
	m    *model
	most int
}

func bothOf(t *testing.T, most int, sizes ...int) *both {
	t.Helper()
	d, twin := formatted(t, sizes...), formatted(t, sizes...)
	return &both{d, execOf(t, cached(t, d, most)), modelOf(t, twin, cached(t, twin, most)), most}
}

// do gives both a command, and tells its code.
func (b *both) do(t *testing.T, c api.Cmd) int {
	t.Helper()
	want := b.m.do(c)
	got := b.x.Do(c)
	if !sameOut(got, want) {
		t.Fatalf("%s: %s, want %s", showCmd(c), showOut(got), showOut(want))
	}
	b.agree(t)
	return got.Code
}

// agree holds what is cheap to ask against the model.
func (b *both) agree(t *testing.T) {
	t.Helper()
	for lun, want := range b.m.tables {
		if got := b.x.Table(lun); !sameTable(got, want) {
			t.Fatalf("the table of %d is %+v, want %+v", lun, got, want)
		}
		got, want := b.x.Units().Hosts(lun), b.m.told.Hosts(lun)
		if !slices.Equal(got, want) {
			t.Fatalf("pending at %d: for %q, want %q", lun, got, want)
		}
		for _, host := range want {
			if got, want := b.x.Units().Wait(lun, host), b.m.told.Wait(lun, host); got != want {
				t.Fatalf("pending for %s at %d: %d, want %d", host, lun, got, want)
			}
		}
	}
	if got, want := b.x.Cache().Dirty(), b.m.c.Dirty(); got != want {
		t.Fatalf("%d blocks are dirty, want %d", got, want)
	}
	if b.d.Ops() != b.m.d.Ops() || b.d.Held() != b.m.d.Held() || b.d.Down() != b.m.d.Down() {
		t.Fatalf("the device has executed %d operations and holds %d, want %d and %d", b.d.Ops(), b.d.Held(), b.m.d.Ops(), b.m.d.Held())
	}
}

// agreeAll holds the bytes of the devices, the visible blocks and all that is pending against each other; then nothing is
// pending any more.
func (b *both) agreeAll(t *testing.T) {
	t.Helper()
	b.agree(t)
	got, _ := b.d.Read(0, b.d.Size())
	want, _ := b.m.d.Read(0, b.d.Size())
	if got != want {
		t.Fatal("the devices differ")
	}
	for lun := range b.m.tables {
		n := b.m.size(lun)
		got, _ := b.x.Cache().Read(lun, 0, n)
		want, _ := b.m.c.Read(lun, 0, n)
		if got != want {
			t.Fatalf("the blocks of %d differ", lun)
		}
		for _, host := range b.m.told.Hosts(lun) {
			for b.m.told.Wait(lun, host) > 0 {
				got, _ := b.x.Units().Take(lun, host)
				if want, _ := b.m.told.Take(lun, host); got != want {
					t.Fatalf("%s is told %d, want %d", host, got, want)
				}
			}
		}
	}
}

// crash lets the power of both go and come again.
func (b *both) crash(t *testing.T, keep []int) {
	t.Helper()
	b.d.Crash(keep)
	b.m.d.Crash(keep)
	b.x = execOf(t, cached(t, b.d, b.most))
	b.m = modelOf(t, b.m.d, cached(t, b.m.d, b.most))
	b.agreeAll(t)
}

// anyHost is one of a few hosts, or no name.
func anyHost(r *rand.Rand) string {
	if r.Intn(40) == 0 {
		return []string{"", "A", "a b", "1", strings.Repeat("a", 65)}[r.Intn(5)]
	}
	return []string{"a", "b", "c", "host.d:9", strings.Repeat("e", 64)}[r.Intn(5)]
}

// anyNumber is one of the range, or beside it.
func anyNumber(r *rand.Rand, most int) int {
	if r.Intn(30) == 0 {
		return slices.Concat(extremes, []int{most + 1, most + 2})[r.Intn(len(extremes)+2)]
	}
	return r.Intn(most + 1)
}

// anyCmd is a command of any kind, which most often may be.
func anyCmd(r *rand.Rand, m *model) api.Cmd {
	c := api.Cmd{Op: anyNumber(r, 15), Lun: r.Intn(len(m.tables)), Host: anyHost(r), Fua: r.Intn(9) == 0}
	if c.Op == 0 && r.Intn(20) > 0 || r.Intn(6) == 0 {
		c.Op = []int{api.OpRead, api.OpWrite, api.OpZero, api.OpUnmap, api.OpCompare, api.OpPreempt}[r.Intn(6)]
	}
	size := m.size(c.Lun)
	table := m.tables[c.Lun]
	if r.Intn(40) == 0 {
		c.Lun = anyNumber(r, 9)
	}
	most := []int{2, 7, 64}[r.Intn(3)]
	c.Blocks = anyNumber(r, min(most, size))
	c.Lba = anyNumber(r, size-min(max(c.Blocks, 0), size))
	c.Data = blocks(r.Int(), min(max(c.Blocks, 0), 66))
	if r.Intn(30) == 0 {
		c.Data += noise(1, []int{1, 511, 512}[r.Intn(3)])
	}
	if c.Op == api.OpCompare {
		c.Data = pairOf(r, m, c)
	}
	for range r.Intn([]int{2, 4, 18}[r.Intn(3)]) {
		lba := anyNumber(r, size)
		c.Ranges = append(c.Ranges, api.Range{Lba: lba, Blocks: anyNumber(r, max(0, min(3, size-max(lba, 0))))})
	}
	c.Key, c.Other, c.NewKey = resv.Key(table, c.Host), uint64(r.Intn(4)), uint64(r.Intn(4))
	if r.Intn(8) == 0 {
		c.Key = uint64(r.Intn(4))
	}
	c.Type, c.Ignore, c.Aptpl = anyNumber(r, 6), r.Intn(4) == 0, []int{0, 0, 0, 1, 2, 3}[r.Intn(6)]
	if r.Intn(2) == 0 && table.Hold.Type != 0 {
		c.Type = table.Hold.Type
	}
	return c
}

// pairOf is the data of a compare: what stands there, or all but that, and what is to stand there.
func pairOf(r *rand.Rand, m *model, c api.Cmd) string {
	data, err := m.c.Read(c.Lun, c.Lba, min(max(c.Blocks, 0), 33))
	if err != api.OK {
		return c.Data
	}
	b := []byte(data)
	if len(b) > 0 && r.Intn(3) == 0 {
		b[r.Intn(len(b))]++
	}
	return string(b) + blocks(r.Int(), len(b)/512) + c.Data[len(c.Data)/512*512:]
}
