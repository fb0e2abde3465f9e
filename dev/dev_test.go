package dev

import (
	"math"
	"math/rand"
	"slices"
	"strings"
	"testing"
	"unsafe"

	"headgate/api"
)

// sector is a sector whose bytes all differ from their neighbours, so that a torn or moved write shows.
func sector(c byte) string {
	b := make([]byte, api.Sector)
	for i := range b {
		b[i] = c + byte(i*7) + byte(i>>8)
	}
	return string(b)
}

func zeros(n int) string { return strings.Repeat("\x00", n*api.Sector) }

func made(t *testing.T, sectors int) *Dev {
	t.Helper()
	d, err := New(sectors)
	if err != api.OK || d == nil {
		t.Fatalf("New(%d): %v", sectors, err)
	}
	return d
}

func wantErr(t *testing.T, what string, got, want api.Errno) {
	t.Helper()
	if got != want {
		t.Errorf("%s: %v, want %v", what, got, want)
	}
}

func wantAll(t *testing.T, what string, d *Dev, want string) {
	t.Helper()
	got, err := d.Read(0, d.Size())
	if err != api.OK {
		t.Errorf("%s: %v", what, err)
	}
	if got != want {
		t.Errorf("%s: other bytes than those last written", what)
	}
}

func wantCounts(t *testing.T, what string, d *Dev, ops, held int, down bool) {
	t.Helper()
	if d.Ops() != ops || d.Held() != held || d.Down() != down {
		t.Errorf("%s: %d operations, %d held, down %v; want %d, %d, %v", what, d.Ops(), d.Held(), d.Down(), ops, held, down)
	}
}

// P4.1: a device has 1 to MaxSectors sectors of zeros.
func TestNew(t *testing.T) {
	for _, n := range []int{1, 2, 63, 64, api.MaxSectors - 1, api.MaxSectors} {
		d := made(t, n)
		if d.Size() != n {
			t.Errorf("%d sectors: Size is %d", n, d.Size())
		}
		wantAll(t, "new", d, zeros(n))
		wantCounts(t, "new", d, 0, 0, false)
	}
	for _, n := range []int{0, -1, math.MinInt, api.MaxSectors + 1, 1 << 32, 1<<32 + 1, math.MaxInt} {
		if d, err := New(n); d != nil || err != api.ErrArg {
			t.Errorf("New(%d): %v, %v", n, d, err)
		}
	}
}

// P4.1: a nil device answers ErrArg, 0 and false, whatever it is asked.
func TestNil(t *testing.T) {
	var d *Dev
	for _, at := range []int{0, -1, 1, math.MaxInt, math.MinInt} {
		for _, n := range []int{0, -1, 1, math.MaxInt} {
			if s, err := d.Read(at, n); s != "" || err != api.ErrArg {
				t.Errorf("Read(%d, %d): %q, %v", at, n, s, err)
			}
		}
		for _, data := range []string{"", "a", sector(1)} {
			wantErr(t, "write", d.Write(at, data), api.ErrArg)
		}
	}
	wantErr(t, "flush", d.Flush(), api.ErrArg)
	for _, n := range []int{0, -1, 3} {
		d.Arm(n)
	}
	d.Crash(nil)
	d.Crash([]int{1, 2})
	wantCounts(t, "nil", d, 0, 0, false)
	if d.Size() != 0 {
		t.Error("Size", d.Size())
	}
}

// P4.1: devices have nothing in common.
func TestApart(t *testing.T) {
	a, b := made(t, 2), made(t, 2)
	a.Arm(1)
	wantErr(t, "write", a.Write(0, sector(1)), api.OK)
	wantErr(t, "write", a.Write(0, sector(2)), api.ErrDown)
	wantAll(t, "the other device", b, zeros(2))
	wantCounts(t, "the other device", b, 0, 0, false)
}

// P4.2: what place is right, for reads and writes, at all edges of a small device and far beyond.
func TestPlaces(t *testing.T) {
	const size = 3
	ats := []int{math.MinInt, math.MinInt + 1, -1 << 32, -2, -1, 0, 1, 2, 3, 4, 5, 1 << 32, 1 << 62, math.MaxInt - 1, math.MaxInt}
	for _, at := range ats {
		for _, n := range ats {
			d := made(t, size)
			want, bytes := api.ErrPlace, 0
			if at >= 0 && n >= 0 && at <= size && n <= size && at+n <= size {
				want, bytes = api.OK, n*api.Sector
			}
			if s, err := d.Read(at, n); err != want || len(s) != bytes {
				t.Errorf("Read(%d, %d): %d bytes, %v", at, n, len(s), err)
			}
			if n < 0 || n > 5 {
				continue
			}
			wantErr(t, "write", d.Write(at, zeros(n)), want)
			if want == api.OK {
				wantCounts(t, "right place", d, n, n, false)
			} else {
				wantCounts(t, "wrong place", d, 0, 0, false)
			}
			for _, over := range []int{1, 2, 100, 511} {
				wantErr(t, "broken sector", d.Write(at, zeros(n)+zeros(1)[:over]), api.ErrPlace)
			}
			wantAll(t, "zeros were written", d, zeros(size))
		}
	}
}

// P4.2: a read is what was last written, of any sectors.
func TestLastWritten(t *testing.T) {
	d := made(t, 5)
	want := []byte(zeros(5))
	for i, x := range []struct{ at, n int }{{0, 1}, {4, 1}, {1, 3}, {2, 1}, {0, 5}, {3, 2}, {0, 2}, {3, 0}, {5, 0}, {0, 0}} {
		data := ""
		for k := range x.n {
			data += sector(byte(16*i + k + 1))
		}
		wantErr(t, "write", d.Write(x.at, data), api.OK)
		copy(want[x.at*api.Sector:], data)
		for at := range 6 {
			for n := range 6 - at {
				got, err := d.Read(at, n)
				if err != api.OK || got != string(want[at*api.Sector:(at+n)*api.Sector]) {
					t.Errorf("after write %d: Read(%d, %d): %v, %d bytes", i, at, n, err, len(got))
				}
			}
		}
	}
	held := d.Held()
	wantErr(t, "flush", d.Flush(), api.OK)
	wantAll(t, "flushed", d, string(want))
	if held != 15 || d.Held() != 0 {
		t.Error("held", held, d.Held())
	}
}

// P4.2: of a wrong place and a device that is down, the place is told; and while it is down nothing is read or written.
func TestDown(t *testing.T) {
	d := made(t, 2)
	wantErr(t, "write", d.Write(0, sector(1)), api.OK)
	d.Arm(0)
	wantErr(t, "goes down", d.Write(1, sector(2)), api.ErrDown)
	for range 2 {
		for _, x := range []struct {
			at, n int
			err   api.Errno
		}{{0, 0, api.ErrDown}, {2, 0, api.ErrDown}, {0, 2, api.ErrDown}, {1, 1, api.ErrDown}, {-1, 1, api.ErrPlace}, {0, 3, api.ErrPlace}, {3, 0, api.ErrPlace}} {
			s, err := d.Read(x.at, x.n)
			wantErr(t, "read", err, x.err)
			wantErr(t, "write", d.Write(x.at, zeros(x.n)), x.err)
			if s != "" {
				t.Error("bytes beside an error")
			}
		}
		if s, err := d.Read(0, -1); s != "" || err != api.ErrPlace {
			t.Error("a negative number", err)
		}
		wantErr(t, "broken sector", d.Write(0, "abc"), api.ErrPlace)
		wantErr(t, "flush", d.Flush(), api.ErrDown)
		wantCounts(t, "down", d, 1, 1, true)
		// P4.3: arming a device that is down does not bring it up.
		d.Arm(5)
	}
	d.Crash([]int{api.Sector})
	wantCounts(t, "up again", d, 1, 0, false)
	wantAll(t, "up again", d, sector(1)+zeros(1))
}

// P4.3: after Arm(n) exactly n operations are executed, and the one after them takes the device down.
func TestArm(t *testing.T) {
	for n := -2; n < 12; n++ {
		d := made(t, 4)
		wantErr(t, "before", d.Write(0, sector(9)+sector(8)), api.OK)
		wantErr(t, "before", d.Flush(), api.OK)
		d.Arm(n)
		left, ops, held := max(n, 0), 3, 0
		for step := range 5 {
			// Two writes and a flush; reads, empty writes and wrong ones are no operations.
			fits := min(left, 2)
			err := d.Write(2, sector(byte(step))+sector(byte(step+50)))
			left, ops, held = left-fits, ops+fits, held+fits
			if fits < 2 {
				wantErr(t, "too many writes", err, api.ErrDown)
				wantCounts(t, "down at a write", d, ops, held, true)
				break
			}
			wantErr(t, "write", err, api.OK)
			wantErr(t, "empty", d.Write(4, ""), api.OK)
			wantErr(t, "wrong", d.Write(4, sector(1)), api.ErrPlace)
			wantErr(t, "wrong", d.Write(0, "a"), api.ErrPlace)
			if _, err := d.Read(0, 4); err != api.OK {
				t.Error("read", err)
			}
			wantCounts(t, "armed", d, ops, held, false)
			err = d.Flush()
			if left == 0 {
				wantErr(t, "too many flushes", err, api.ErrDown)
				wantCounts(t, "down at a flush", d, ops, held, true)
				break
			}
			left, ops, held = left-1, ops+1, 0
			wantErr(t, "flush", err, api.OK)
			wantCounts(t, "flushed", d, ops, held, false)
		}
		if !d.Down() || ops != 3+max(n, 0) {
			t.Errorf("armed with %d: down %v after %d operations", n, d.Down(), ops)
		}
	}
}

// P4.3: the writes of a call before the one that goes down are executed, and no other one.
func TestDownWithin(t *testing.T) {
	data := sector(1) + sector(2) + sector(3)
	for n := range 4 {
		d := made(t, 4)
		d.Arm(n)
		want := api.ErrDown
		if n == 3 {
			want = api.OK
		}
		wantErr(t, "write", d.Write(1, data), want)
		wantCounts(t, "within", d, n, n, n < 3)
		d.Crash([]int{api.Sector, api.Sector, api.Sector, api.Sector})
		wantAll(t, "within", d, zeros(1)+data[:n*api.Sector]+zeros(3-n))
	}
}

// P4.3: a further Arm begins to count anew, to fewer and to more; extreme numbers do not wrap round.
func TestArmAnew(t *testing.T) {
	for _, x := range []struct {
		first, used, second, left int
	}{{5, 0, 1, 1}, {5, 3, 4, 4}, {1, 1, 2, 2}, {1, 0, -7, 0}, {2, 2, 0, 0}, {math.MaxInt, 2, 3, 3}, {3, 1, math.MinInt, 0}, {0, 0, 6, 6}} {
		d := made(t, 1)
		d.Arm(x.first)
		for range x.used {
			wantErr(t, "first", d.Flush(), api.OK)
		}
		d.Arm(x.second)
		for range x.left {
			wantErr(t, "second", d.Write(0, sector(1)), api.OK)
		}
		wantErr(t, "behind the second", d.Flush(), api.ErrDown)
		wantCounts(t, "armed anew", d, x.used+x.left, x.left, true)
	}
	d := made(t, 1)
	d.Arm(math.MaxInt)
	for range 1000 {
		wantErr(t, "far", d.Flush(), api.OK)
	}
}

// P4.4: each write that is held back is lost, torn or kept by its own number, in the order of the writes.
func TestCrash(t *testing.T) {
	old, a, b := sector(1), sector(60), sector(120)
	for i, x := range []struct {
		keep []int
		want string
	}{
		{nil, old},
		{[]int{}, old},
		{[]int{0, 0}, old},
		{[]int{-1, math.MinInt}, old},
		{[]int{api.Sector}, a},
		{[]int{math.MaxInt, 0}, a},
		{[]int{0, api.Sector}, b},
		{[]int{api.Sector, api.Sector + 1, 7}, b},
		{[]int{1}, a[:1] + old[1:]},
		{[]int{511}, a[:511] + old[511:]},
		{[]int{0, 1}, b[:1] + old[1:]},
		{[]int{-3, 511}, b[:511] + old[511:]},
		{[]int{api.Sector, 256}, b[:256] + a[256:]},
		{[]int{300, 100}, b[:100] + a[100:300] + old[300:]},
		{[]int{100, 300}, b[:300] + old[300:]},
		{[]int{0, 0, api.Sector}, old},
	} {
		d := made(t, 3)
		wantErr(t, "write", d.Write(1, old), api.OK)
		wantErr(t, "flush", d.Flush(), api.OK)
		wantErr(t, "write", d.Write(1, a), api.OK)
		wantErr(t, "write", d.Write(1, b), api.OK)
		wantAll(t, "before the crash", d, zeros(1)+b+zeros(1))
		keep := slices.Clone(x.keep)
		d.Crash(keep)
		if !slices.Equal(keep, x.keep) {
			t.Errorf("crash %d changed its argument", i)
		}
		wantAll(t, "crashed", d, zeros(1)+x.want+zeros(1))
		wantCounts(t, "crashed", d, 4, 0, false)
		// What is left is held back no more.
		d.Crash([]int{3, 3, 3})
		wantAll(t, "crashed again", d, zeros(1)+x.want+zeros(1))
	}
}

// P4.4: the sectors of one call are writes of their own, in ascending order.
func TestCrashWithin(t *testing.T) {
	data := sector(1) + sector(2) + sector(3)
	d := made(t, 3)
	wantErr(t, "write", d.Write(0, data), api.OK)
	d.Crash([]int{10, 0, 600})
	wantAll(t, "crashed", d, data[:10]+zeros(2)[10:]+data[2*api.Sector:])
}

// P4.4: a crash ends what Arm began, whether the device is down or not.
func TestCrashDisarms(t *testing.T) {
	for used := range 4 {
		d := made(t, 1)
		d.Arm(2)
		for range used {
			d.Flush()
		}
		d.Crash(nil)
		for range 5 {
			wantErr(t, "disarmed", d.Write(0, sector(1)), api.OK)
		}
		wantCounts(t, "disarmed", d, min(used, 2)+5, 5, false)
	}
}

// model is a device in the chapter's words: bytes that do not change till a crash or a flush, and all writes behind them.
type model struct {
	bytes []byte
	at    []int
	data  []string
	ops   int
	left  int // -1: not armed
	down  bool
}

func newModel(sectors int) *model { return &model{bytes: make([]byte, sectors*api.Sector), left: -1} }

func (m *model) lay(over []byte, keep func(i int) int) {
	for i, at := range m.at {
		copy(over[at*api.Sector:], m.data[i][:keep(i)])
	}
}

func (m *model) all() string {
	b := slices.Clone(m.bytes)
	m.lay(b, func(int) int { return api.Sector })
	return string(b)
}

func (m *model) operate() bool {
	m.down = m.down || m.left == 0
	if m.down {
		return false
	}
	if m.left > 0 {
		m.left--
	}
	m.ops++
	return true
}

func (m *model) write(at int, data string) api.Errno {
	if m.down {
		return api.ErrDown
	}
	for ; data != ""; at, data = at+1, data[api.Sector:] {
		if !m.operate() {
			return api.ErrDown
		}
		m.at, m.data = append(m.at, at), append(m.data, data[:api.Sector])
	}
	return api.OK
}

func (m *model) flush() api.Errno {
	if !m.operate() {
		return api.ErrDown
	}
	m.bytes, m.at, m.data = []byte(m.all()), nil, nil
	return api.OK
}

func (m *model) crash(keep []int) {
	m.lay(m.bytes, func(i int) int {
		if i >= len(keep) || keep[i] <= 0 {
			return 0
		}
		return min(keep[i], api.Sector)
	})
	m.at, m.data, m.left, m.down = nil, nil, -1, false
}

// P4.2 to P4.4: long mixed lives are as the model's.
func TestLives(t *testing.T) {
	for seed := range 60 {
		r := rand.New(rand.NewSource(int64(seed)))
		size := 1 + r.Intn(6)
		d, m := made(t, size), newModel(size)
		for step := range 200 {
			switch r.Intn(10) {
			case 0:
				keep := make([]int, r.Intn(12))
				for i := range keep {
					keep[i] = r.Intn(800) - 150
				}
				d.Crash(keep)
				m.crash(keep)
			case 1:
				n := r.Intn(12) - 1
				d.Arm(n)
				m.left = max(n, 0)
			case 2, 3:
				wantErr(t, "flush", d.Flush(), m.flush())
			default:
				at := r.Intn(size + 1)
				data := ""
				for range r.Intn(size - at + 1) {
					data += sector(byte(r.Intn(256)))
				}
				wantErr(t, "write", d.Write(at, data), m.write(at, data))
			}
			if m.down {
				if _, err := d.Read(0, size); err != api.ErrDown {
					t.Errorf("read while down: %v", err)
				}
			} else {
				wantAll(t, "life", d, m.all())
			}
			wantCounts(t, "life", d, m.ops, len(m.at), m.down)
			if t.Failed() {
				t.Fatalf("seed %d, step %d", seed, step)
			}
		}
	}
}

// P4.5: what was flushed survives every crash, at any operation behind it, until it is written again.
func TestFlushedSurvives(t *testing.T) {
	first := sector(1) + sector(2) + sector(3) + sector(4)
	for stop := range 8 {
		for _, keep := range []int{-1, 0, 1, 300, 511, 512} {
			d := made(t, 4)
			wantErr(t, "write", d.Write(0, first), api.OK)
			wantErr(t, "flush", d.Flush(), api.OK)
			d.Arm(stop)
			for range 3 {
				d.Write(2, sector(90))
				d.Flush()
			}
			d.Write(2, sector(91))
			d.Crash(slices.Repeat([]int{keep}, 10))
			for range 3 {
				d.Crash(nil)
			}
			for _, at := range []int{0, 1, 3} {
				if s, err := d.Read(at, 1); err != api.OK || s != sector(byte(at+1)) {
					t.Errorf("down after %d, keep %d: sector %d did not survive (%v)", stop, keep, at, err)
				}
			}
		}
	}
}

// P4.5: what was flushed and then written again may be lost only as far as that write took effect.
func TestWrittenAgain(t *testing.T) {
	d := made(t, 1)
	d.Write(0, sector(1))
	d.Flush()
	d.Write(0, sector(2))
	d.Crash([]int{20})
	wantAll(t, "written again", d, sector(2)[:20]+sector(1)[20:])
	d.Write(0, sector(3))
	d.Crash(nil)
	wantAll(t, "torn bytes are stable", d, sector(2)[:20]+sector(1)[20:])
}

// Rule 2: answers are new memory, even those of one sector that was written as a whole.
func TestOwnMemory(t *testing.T) {
	d := made(t, 2)
	data := sector(1)
	wantErr(t, "write", d.Write(0, data), api.OK)
	one, _ := d.Read(0, 1)
	other, _ := d.Read(0, 1)
	places := []*byte{unsafe.StringData(data), unsafe.StringData(one), unsafe.StringData(other)}
	if places[0] == places[1] || places[0] == places[2] || places[1] == places[2] {
		t.Error("an answer shares memory")
	}
}
