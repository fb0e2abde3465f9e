package exec

import (
	"fmt"
	"math"
	"slices"
	"strings"
	"testing"

	"headgate/access"
	"headgate/api"
	"headgate/cache"
	"headgate/image"
	"headgate/store"
)

var extremes = []int{math.MinInt, math.MinInt + 1, -1 << 32, -513, -2, -1, 1 << 31, 1 << 32, 1<<32 + 1, math.MaxInt - 1, math.MaxInt}

func showOut(o api.Out) string {
	return fmt.Sprintf("{code %d, %d bytes, at %d, why %d, regs %v, gen %d, hold %v, n %d}", o.Code, len(o.Data), o.At, o.Why, o.Regs, o.Gen, o.Hold, o.N)
}

func showCmd(c api.Cmd) string {
	data := len(c.Data)
	c.Data = ""
	return fmt.Sprintf("%+v with %d bytes", c, data)
}

// made is an executor of units with so many blocks, whose cache holds back as much as it can.
func made(t *testing.T, sizes ...int) *Exec {
	t.Helper()
	return execOf(t, cached(t, formatted(t, sizes...), 256))
}

// want holds the outcome of one command against the one that is meant.
func want(t *testing.T, x *Exec, c api.Cmd, o api.Out) {
	t.Helper()
	if got := x.Do(c); !sameOut(got, o) {
		t.Errorf("%s: %s, want %s", showCmd(c), showOut(got), showOut(o))
	}
}

func wantCode(t *testing.T, x *Exec, c api.Cmd, code int) {
	t.Helper()
	want(t, x, c, api.Out{Code: code})
}

// register makes hosts registrants, each with a key by its first letter: a has 1.
func register(t *testing.T, x *Exec, lun int, hosts ...string) {
	t.Helper()
	for _, h := range hosts {
		wantCode(t, x, api.Cmd{Op: api.OpRegister, Lun: lun, Host: h, NewKey: keyOf(h)}, api.Good)
	}
}

func keyOf(host string) uint64 { return uint64(host[0]-'a') + 1 }

func wantTable(t *testing.T, what string, got, want api.Table) {
	t.Helper()
	if !sameTable(got, want) {
		t.Errorf("%s: the table is %+v, want %+v", what, got, want)
	}
}

// Example 1.
func TestExample(t *testing.T) {
	want(t, made(t, 3), api.Cmd{Op: api.OpRead, Host: "h", Blocks: 1}, api.Out{Code: api.Good, Data: zeros(1)})
}

// P14.1: the errors of New, and what an executor is like at first.
func TestNew(t *testing.T) {
	if x, err := New(nil); x != nil || err != api.ErrArg {
		t.Error("no cache", err)
	}
	d := formatted(t, 3, 4)
	c := cached(t, d, 0)
	x := execOf(t, c)
	other := execOf(t, c)
	if x.Cache() != c || x.Units() == nil || x.Units() != x.Units() || x.Units() == other.Units() {
		t.Error("not the cache and the units themselves")
	}
	for lun := range api.MaxLuns {
		if l := x.Units().Hosts(lun); len(l) != 0 {
			t.Error("pending at first", l)
		}
	}
	down(d)
	if x, err := New(c); x != nil || err != api.ErrDown {
		t.Error("down", err)
	}
	if x, err := New(nil); x != nil || err != api.ErrArg {
		t.Error("no cache", err)
	}
	d.Crash(nil)
	execOf(t, cached(t, d, 0))
}

// P14.1: the device goes down only for calls that need it; New makes none that would count as an operation.
func TestNewArmed(t *testing.T) {
	d := formatted(t, 3, 4)
	c := cached(t, d, 0)
	d.Arm(0)
	ops := d.Ops()
	if x, err := New(c); x == nil || err != api.OK || d.Ops() != ops || d.Down() {
		t.Error(err)
	}
}

// P14.1: what is added to the units that Units returns is told by them, and what is done through the cache is done.
func TestThemselves(t *testing.T) {
	x := made(t, 3)
	x.Units().Add(0, "a", api.WhyPower)
	if x.Units().Wait(0, "a") != 1 {
		t.Error("the units are a copy")
	}
	x.Cache().Write(0, 1, blocks(1, 1), false)
	want(t, x, api.Cmd{Op: api.OpRead, Host: "h", Blocks: 3}, api.Out{Code: api.Good, Data: zeros(1) + blocks(1, 1) + zeros(1)})
}

// P14.1: a store without units.
func TestNoUnits(t *testing.T) {
	c, err := cache.New(new(store.Store), 1)
	if err != api.OK {
		t.Fatal(err)
	}
	x := execOf(t, c)
	for op := api.OpReady; op <= api.OpSize; op++ {
		wantCode(t, x, api.Cmd{Op: op, Host: "h"}, api.NoUnit)
	}
	wantTable(t, "no units", x.Table(0), api.Table{})
}

// P14.1: an executor that there is not.
func TestNil(t *testing.T) {
	var x *Exec
	for _, n := range append([]int{0, 1, 2, 8, 15, 16}, extremes...) {
		for _, host := range []string{"a", "", "A"} {
			wantCode(t, x, api.Cmd{Op: n, Host: host, Lun: n}, api.Wrong)
			wantCode(t, x, api.Cmd{Op: api.OpReady, Host: host, Lun: n}, api.Wrong)
		}
		wantTable(t, "nil", x.Table(n), api.Table{})
	}
	if x.Units() != nil || x.Cache() != nil {
		t.Error("an executor that there is not tells something")
	}
}

// tables are some that are good, with Aptpl and without.
func tables() []api.Table {
	many := make([]api.Reg, 16)
	for i := range many {
		many[i] = api.Reg{Host: string(rune('a'+i)) + strings.Repeat("x", 63), Key: math.MaxUint64 - uint64(i)}
	}
	two := []api.Reg{{Host: "b", Key: 2}, {Host: "a", Key: 1}}
	var l []api.Table
	for _, aptpl := range []bool{true, false} {
		l = append(l, api.Table{Gen: 7, Aptpl: aptpl}, api.Table{Regs: two, Gen: math.MaxUint32, Aptpl: aptpl})
		l = append(l, api.Table{Regs: many, Hold: api.Hold{Type: api.Exclusive, Host: many[15].Host}, Aptpl: aptpl})
		for typ := api.WriteExclusive; typ <= api.All; typ++ {
			h := api.Hold{Type: typ}
			if typ <= api.Registrants {
				h.Host = "a"
			}
			l = append(l, api.Table{Regs: two, Hold: h, Gen: uint32(typ), Aptpl: aptpl})
		}
	}
	return l
}

// P14.1, Terms: the initial tables, out of records of all kinds.
func TestInitialTables(t *testing.T) {
	for i, table := range tables() {
		text, err := image.Encode(table)
		if err != api.OK {
			t.Fatal(err)
		}
		kept := api.Table{}
		if table.Aptpl {
			kept = table
		}
		for lun := range 3 {
			d := formatted(t, 1, 2, 3)
			if err := cached(t, d, 0).Record(lun, text); err != api.OK {
				t.Fatal(err)
			}
			x := execOf(t, cached(t, d, 0))
			for other := -1; other <= 3; other++ {
				meant := api.Table{}
				if other == lun {
					meant = kept
				}
				wantTable(t, fmt.Sprint("table ", i, " of ", lun, ", ", other), x.Table(other), meant)
			}
		}
	}
}

// Terms: records that are no images.
func TestNoImages(t *testing.T) {
	text, _ := image.Encode(api.Table{Regs: []api.Reg{{Host: "a", Key: 1}}, Gen: 3, Aptpl: true})
	wrong := text[:len(text)-1] + string(text[len(text)-1]^1)
	for i, record := range []string{"", "x", "HGRT", text[:len(text)-1], text + "\x00", text + text, wrong, "h" + text[1:], noise(1, 2048)} {
		d := formatted(t, 1, 2)
		for lun, r := range []string{record, text} {
			if err := cached(t, d, 0).Record(lun, r); err != api.OK {
				t.Fatal(err)
			}
		}
		x := execOf(t, cached(t, d, 0))
		wantTable(t, fmt.Sprint("record ", i), x.Table(0), api.Table{})
		if len(x.Table(1).Regs) != 1 {
			t.Error("the other unit's table is lost", i)
		}
	}
}

// sample is a command with each operation that is Good on a unit of four blocks without registrations, if it can be.
func sample(op int, host string) api.Cmd {
	c := api.Cmd{Op: op, Host: host, Key: keyOf(host), NewKey: keyOf(host), Type: api.WriteExclusive, Blocks: 1}
	switch op {
	case api.OpWrite:
		c.Data = blocks(9, 1)
	case api.OpCompare:
		c.Data = zeros(2)
	case api.OpUnmap:
		c.Ranges = []api.Range{{Lba: 1, Blocks: 1}}
	}
	return c
}

// P14.2: what is no operation, and who is no host, is Wrong ahead of everything else.
func TestWrongFirst(t *testing.T) {
	x := made(t, 4)
	register(t, x, 0, "a")
	wantCode(t, x, api.Cmd{Op: api.OpReserve, Host: "a", Key: 1, Type: api.Exclusive}, api.Good)
	for _, lun := range []int{0, 1, -1, 8} {
		for _, host := range []string{"a", "b"} {
			for _, op := range append([]int{-15, 0, 16, 17, 18, 256 + 2, 1 << 40}, extremes...) {
				wantCode(t, x, api.Cmd{Op: op, Host: host, Lun: lun}, api.Wrong)
			}
		}
		for op := api.OpReady; op <= api.OpSize; op++ {
			for _, host := range []string{"", "A", "1a", "-", "a b", "a\x00", "ä", "a\n", strings.Repeat("a", 65)} {
				c := sample(op, "a")
				c.Host, c.Lun, c.Lba = host, lun, 9
				wantCode(t, x, c, api.Wrong)
			}
		}
	}
	for op := api.OpReady; op <= api.OpSize; op++ {
		if got := made(t, 4).Do(sample(op, "a")).Code; got == api.Wrong || got == api.NoUnit {
			t.Error("operation", op, got)
		}
		c := sample(op, "a")
		c.Host = strings.Repeat("a", 64)
		if got := made(t, 4).Do(c).Code; got == api.Wrong || got == api.NoUnit {
			t.Error("a long name, operation", op, got)
		}
	}
}

// P14.2: a unit that there is not comes ahead of all but the operation and the host.
func TestNoUnit(t *testing.T) {
	for _, n := range []int{1, 2, 8} {
		sizes := slices.Repeat([]int{4}, n)
		x := made(t, sizes...)
		for op := api.OpReady; op <= api.OpSize; op++ {
			for _, lun := range append([]int{n, n + 1, 8, 9, 256}, extremes...) {
				c := sample(op, "a")
				for _, c.Lba = range []int{0, 5, -1} {
					for _, c.Blocks = range []int{0, -1, 5000} {
						for _, c.Data = range []string{"", "x", zeros(2)} {
							c.Lun = lun
							wantCode(t, x, c, api.NoUnit)
						}
					}
				}
			}
		}
		for lun := range n {
			wantCode(t, x, api.Cmd{Op: api.OpReady, Host: "a", Lun: lun}, api.Good)
			want(t, x, api.Cmd{Op: api.OpSize, Host: "a", Lun: lun}, api.Out{Code: api.Good, N: 4})
		}
	}
}

// reserved is an executor whose unit 0 has the registrants a and b, and a reservation that a has made; c is a stranger.
func reserved(t *testing.T, typ int, sizes ...int) *Exec {
	t.Helper()
	x := made(t, sizes...)
	register(t, x, 0, "a", "b")
	wantCode(t, x, api.Cmd{Op: api.OpReserve, Host: "a", Key: 1, Type: typ}, api.Good)
	return x
}

// P14.2, P14.4: who yields Conflict, told type by type: r forbids reading, w changing; of the holder, of the other
// registrant, and of a stranger.
func TestConflict(t *testing.T) {
	forbidden := map[int][3]string{
		api.WriteExclusive:   {"", "w", "w"},
		api.Exclusive:        {"", "rw", "rw"},
		api.WriteRegistrants: {"", "", "w"},
		api.Registrants:      {"", "", "rw"},
		api.WriteAll:         {"", "", "w"},
		api.All:              {"", "", "rw"},
	}
	kinds := map[int]string{api.OpRead: "r", api.OpWrite: "w", api.OpZero: "w", api.OpUnmap: "w", api.OpCompare: "w", api.OpFlush: "w"}
	for typ, l := range forbidden {
		for i, host := range []string{"a", "b", "c"} {
			for op := api.OpReady; op <= api.OpSize; op++ {
				x := reserved(t, typ, 4, 4)
				c := sample(op, host)
				forbids := kinds[op] != "" && strings.Contains(l[i], kinds[op])
				if forbids == access.May(x.Table(0), host, op) {
					t.Errorf("type %d, %s, operation %d: access says otherwise", typ, host, op)
				}
				got := x.Do(c)
				if forbids && !sameOut(got, api.Out{Code: api.Conflict}) {
					t.Errorf("type %d, %s, operation %d: %s", typ, host, op, showOut(got))
				}
				if !forbids && kinds[op] != "" && got.Code != api.Good {
					t.Errorf("type %d, %s, operation %d: %s", typ, host, op, showOut(got))
				}
				if kinds[op] != "" {
					c.Lun = 1
					if got := x.Do(c); got.Code != api.Good {
						t.Errorf("type %d, %s, operation %d of another unit: %s", typ, host, op, showOut(got))
					}
				}
			}
		}
	}
}

// P14.2: Conflict comes ahead of what is wrong with a command's blocks.
func TestConflictFirst(t *testing.T) {
	x := reserved(t, api.Exclusive, 4)
	for _, c := range []api.Cmd{
		{Op: api.OpRead, Blocks: 65}, {Op: api.OpRead, Lba: 5}, {Op: api.OpRead, Blocks: -1}, {Op: api.OpWrite, Data: "x"}, {Op: api.OpWrite, Lba: 9},
		{Op: api.OpZero, Blocks: -1}, {Op: api.OpZero, Blocks: 5}, {Op: api.OpUnmap, Ranges: make([]api.Range, 17)}, {Op: api.OpUnmap, Ranges: []api.Range{{Lba: -1}}},
		{Op: api.OpCompare, Data: zeros(1)}, {Op: api.OpCompare, Lba: 4, Data: zeros(2)}, {Op: api.OpCompare, Data: blocks(1, 2)},
	} {
		c.Host = "b"
		wantCode(t, x, c, api.Conflict)
		c.Host = "a"
		if got := x.Do(c).Code; got != api.Wrong && got != api.Beyond && got != api.Differ {
			t.Errorf("%s: %d", showCmd(c), got)
		}
	}
}

// P14.2: operations that ask nothing of their other fields, whatever these are.
func TestReadyAndSize(t *testing.T) {
	x := made(t, 1, 90, 3700)
	for lun, n := range []int{1, 90, 3700} {
		for _, v := range append([]int{0, 1, 65}, extremes...) {
			c := api.Cmd{Op: api.OpReady, Host: "h", Lun: lun, Lba: v, Blocks: v, Data: "x", Ranges: make([]api.Range, 20), Type: v, Aptpl: v, Key: 5, Fua: true}
			wantCode(t, x, c, api.Good)
			c.Op = api.OpSize
			want(t, x, c, api.Out{Code: api.Good, N: n})
			c.Op = api.OpFlush
			wantCode(t, x, c, api.Good)
			c.Op = api.OpKeys
			wantCode(t, x, c, api.Good)
			c.Op = api.OpHolder
			wantCode(t, x, c, api.Good)
		}
	}
}

// stripes writes blocks that differ to all of a unit.
func stripes(t *testing.T, x *Exec, lun, size int) string {
	t.Helper()
	all := blocks(lun+100, size)
	for lba := 0; lba < size; lba += 64 {
		n := min(64, size-lba)
		wantCode(t, x, api.Cmd{Op: api.OpWrite, Host: "h", Lun: lun, Lba: lba, Data: all[lba*512 : (lba+n)*512]}, api.Good)
	}
	return all
}

// wantBlocks holds all blocks of a unit against those that are meant.
func wantBlocks(t *testing.T, what string, x *Exec, lun int, all string) {
	t.Helper()
	got, err := x.Cache().Read(lun, 0, len(all)/512)
	if err != api.OK || got != all {
		t.Errorf("%s: other blocks", what)
	}
}

// P14.2: reads at both sides of each edge, ahead of a unit's end and far behind it.
func TestRead(t *testing.T) {
	const size = 70
	x := made(t, size, 3)
	all := stripes(t, x, 0, size)
	numbers := append([]int{0, 1, 2, 5, 6, 7, 63, 64, 65, 69, 70, 71}, extremes...)
	for _, lba := range numbers {
		for _, n := range numbers {
			c := api.Cmd{Op: api.OpRead, Host: "h", Lba: lba, Blocks: n, Data: "x", Ranges: make([]api.Range, 17)}
			switch {
			case n < 0 || n > 64:
				wantCode(t, x, c, api.Wrong)
			case lba < 0 || lba > size || n > size-lba:
				wantCode(t, x, c, api.Beyond)
			default:
				want(t, x, c, api.Out{Code: api.Good, Data: all[lba*512 : (lba+n)*512]})
			}
		}
	}
	want(t, x, api.Cmd{Op: api.OpRead, Host: "h", Lun: 1, Blocks: 3}, api.Out{Code: api.Good, Data: zeros(3)})
	wantCode(t, x, api.Cmd{Op: api.OpRead, Host: "h", Lun: 1, Blocks: 4}, api.Beyond)
}

// P14.2: writes at both sides of each edge.
func TestWrite(t *testing.T) {
	const size = 70
	x := made(t, 3, size)
	all := []byte(stripes(t, x, 1, size))
	for i, lba := range append([]int{0, 1, 5, 6, 7, 69, 70, 71}, extremes...) {
		for _, n := range []int{0, 1, 511, 512, 513, 1024, 63 * 512, 64*512 - 1, 64 * 512, 64*512 + 1, 65 * 512, 70 * 512, 71 * 512} {
			data := noise(i*100+n, n)
			c := api.Cmd{Op: api.OpWrite, Host: "h", Lun: 1, Lba: lba, Data: data, Blocks: -1, Ranges: make([]api.Range, 17)}
			switch {
			case n%512 != 0 || n > 64*512:
				wantCode(t, x, c, api.Wrong)
			case lba < 0 || lba > size || n/512 > size-lba:
				wantCode(t, x, c, api.Beyond)
			default:
				wantCode(t, x, c, api.Good)
				copy(all[lba*512:], data)
			}
			wantBlocks(t, showCmd(c), x, 1, string(all))
		}
	}
	wantBlocks(t, "another unit", x, 0, zeros(3))
}

// P14.2: zeros at both sides of each edge, up to a whole unit of the greatest size.
func TestZero(t *testing.T) {
	const size = 70
	x := made(t, 3, size)
	numbers := append([]int{0, 1, 2, 64, 65, 69, 70, 71, 4095, 4096, 4097}, extremes...)
	for _, lba := range numbers {
		for _, n := range numbers {
			c := api.Cmd{Op: api.OpZero, Host: "h", Lun: 1, Lba: lba, Blocks: n, Data: "x", Ranges: make([]api.Range, 17)}
			switch {
			case n < 0 || n > 4096:
				wantCode(t, x, c, api.Wrong)
			case lba < 0 || lba > size || n > size-lba:
				wantCode(t, x, c, api.Beyond)
			default:
				all := stripes(t, x, 1, size)
				wantCode(t, x, c, api.Good)
				wantBlocks(t, showCmd(c), x, 1, all[:lba*512]+zeros(n)+all[(lba+n)*512:])
			}
		}
	}
}

// P14.2: a unit that is too large to be read at once is made zeros at once.
func TestZeroMost(t *testing.T) {
	x := execOf(t, cached(t, formatted(t, 3800), 0))
	for _, lba := range []int{0, 1800, 3736} {
		wantCode(t, x, api.Cmd{Op: api.OpWrite, Host: "h", Lba: lba, Data: blocks(lba, 64)}, api.Good)
	}
	wantCode(t, x, api.Cmd{Op: api.OpZero, Host: "h", Blocks: 3801}, api.Beyond)
	wantCode(t, x, api.Cmd{Op: api.OpZero, Host: "h", Blocks: 4096}, api.Beyond)
	wantCode(t, x, api.Cmd{Op: api.OpZero, Host: "h", Blocks: 4097}, api.Wrong)
	if n := x.Cache().Store().Used(0); n != 192 {
		t.Error(n)
	}
	wantCode(t, x, api.Cmd{Op: api.OpZero, Host: "h", Blocks: 3800}, api.Good)
	wantBlocks(t, "zeros", x, 0, zeros(3800))
	if n := x.Cache().Store().Used(0); n != 0 {
		t.Error("still stored", n)
	}
}

// P14.2: ranges at both sides of each edge, alone and behind good ones; how many they may be comes first.
func TestUnmap(t *testing.T) {
	const size = 70
	x := made(t, 3, size)
	numbers := append([]int{0, 1, 2, 64, 65, 69, 70, 71, 4097}, extremes...)
	for _, lba := range numbers {
		for _, n := range numbers {
			r := api.Range{Lba: lba, Blocks: n}
			c := api.Cmd{Op: api.OpUnmap, Host: "h", Lun: 1, Lba: -1, Blocks: -1, Data: "x"}
			for _, c.Ranges = range [][]api.Range{{r}, {{Lba: 3, Blocks: 2}, r}, {r, {Lba: 3, Blocks: 2}}} {
				if lba < 0 || n < 0 || lba > size || n > size-lba {
					wantCode(t, x, c, api.Beyond)
					continue
				}
				all := []byte(stripes(t, x, 1, size))
				for _, r := range c.Ranges {
					clear(all[r.Lba*512 : (r.Lba+r.Blocks)*512])
				}
				wantCode(t, x, c, api.Good)
				wantBlocks(t, showCmd(c), x, 1, string(all))
			}
			if n < 0 || lba < 0 {
				c.Ranges = slices.Repeat([]api.Range{r}, 16)
				wantCode(t, x, c, api.Beyond)
				c.Ranges = slices.Repeat([]api.Range{r}, 17)
				wantCode(t, x, c, api.Wrong)
			}
		}
	}
}

// P14.2: how many ranges there may be.
func TestUnmapMost(t *testing.T) {
	x := made(t, 40)
	for n := range 20 {
		all := []byte(stripes(t, x, 0, 40))
		var l []api.Range
		for i := range n {
			l = append(l, api.Range{Lba: 2 * i, Blocks: 1})
		}
		code := api.Good
		if n > 16 {
			code = api.Wrong
		}
		wantCode(t, x, api.Cmd{Op: api.OpUnmap, Host: "h", Ranges: l}, code)
		for i := 0; code == api.Good && i < n; i++ {
			clear(all[2*i*512 : (2*i+1)*512])
		}
		wantBlocks(t, fmt.Sprint(n, " ranges"), x, 0, string(all))
	}
	wantCode(t, x, api.Cmd{Op: api.OpUnmap, Host: "h", Ranges: make([]api.Range, 100000)}, api.Wrong)
}

// P14.2: compares at both sides of each edge of their size and place.
func TestCompare(t *testing.T) {
	const size = 40
	x := made(t, 3, size)
	all := []byte(stripes(t, x, 1, size))
	for i, lba := range append([]int{0, 1, 7, 8, 9, 39, 40, 41}, extremes...) {
		for _, n := range []int{0, 1, 512, 513, 1023, 1024, 1025, 1536, 2048, 62 * 512, 63 * 512, 64*512 - 1, 64 * 512, 64*512 + 1, 65 * 512, 66 * 512, 128 * 512} {
			half := n / 1024
			within := lba >= 0 && lba <= size && half <= size-lba
			data := noise(i, n)
			if within {
				data = string(all[lba*512:(lba+half)*512]) + noise(i*100+n, n-half*512)
			}
			c := api.Cmd{Op: api.OpCompare, Host: "h", Lun: 1, Lba: lba, Data: data, Blocks: -1, Ranges: make([]api.Range, 17)}
			switch {
			case n%1024 != 0 || n > 64*512:
				wantCode(t, x, c, api.Wrong)
			case !within:
				wantCode(t, x, c, api.Beyond)
			default:
				wantCode(t, x, c, api.Good)
				copy(all[lba*512:], data[half*512:])
			}
			wantBlocks(t, showCmd(c), x, 1, string(all))
		}
	}
	wantBlocks(t, "another unit", x, 0, zeros(3))
}

// P14.2: the first byte that differs is told, wherever it is, and nothing is written.
func TestDiffer(t *testing.T) {
	x := made(t, 8)
	all := stripes(t, x, 0, 8)
	for lba := range 5 {
		for n := 1; n <= 3; n++ {
			there := all[lba*512 : (lba+n)*512]
			for at := 0; at < n*512; at += 1 + at%97 {
				for _, more := range []int{0, 1, 600} {
					b := []byte(there)
					b[at] ^= 1 << (at % 8)
					if at+more < len(b) && more > 0 {
						b[at+more]++
					}
					want(t, x, api.Cmd{Op: api.OpCompare, Host: "h", Lba: lba, Data: string(b) + blocks(1, n)}, api.Out{Code: api.Differ, At: at})
				}
			}
			b := []byte(there)
			b[n*512-1]++
			want(t, x, api.Cmd{Op: api.OpCompare, Host: "h", Lba: lba, Data: string(b) + blocks(1, n)}, api.Out{Code: api.Differ, At: n*512 - 1})
		}
	}
	wantBlocks(t, "after differing", x, 0, all)
	// The second half may be anything, also what is there.
	wantCode(t, x, api.Cmd{Op: api.OpCompare, Host: "h", Lba: 2, Data: all[1024:2048] + all[1024:2048]}, api.Good)
	wantBlocks(t, "the same", x, 0, all)
}

// P14.2: what is written through, what is flushed, and what is only held back.
func TestFua(t *testing.T) {
	for _, z := range []struct {
		c     api.Cmd
		dirty int
	}{
		{api.Cmd{Op: api.OpWrite, Data: blocks(2, 2)}, 5},
		{api.Cmd{Op: api.OpWrite, Data: blocks(2, 2), Fua: true}, 0},
		{api.Cmd{Op: api.OpWrite, Fua: true}, 0},
		{api.Cmd{Op: api.OpZero, Blocks: 2, Fua: true}, 5},
		{api.Cmd{Op: api.OpUnmap, Ranges: []api.Range{{Lba: 0, Blocks: 1}, {Lba: 0, Blocks: 3}}, Fua: true}, 7},
		{api.Cmd{Op: api.OpCompare, Data: zeros(1) + blocks(3, 1), Fua: true}, 4},
		{api.Cmd{Op: api.OpFlush}, 0},
		{api.Cmd{Op: api.OpFlush, Fua: true}, 0},
		{api.Cmd{Op: api.OpRead, Blocks: 4, Fua: true}, 3},
		{api.Cmd{Op: api.OpReady, Fua: true}, 3},
	} {
		d := formatted(t, 4, 4)
		x := execOf(t, cached(t, d, 256))
		wantCode(t, x, api.Cmd{Op: api.OpWrite, Host: "h", Lba: 1, Data: blocks(1, 3)}, api.Good)
		z.c.Host = "h"
		if got := x.Do(z.c).Code; got != api.Good || x.Cache().Dirty() != z.dirty {
			t.Errorf("%s: %d, %d blocks are dirty", showCmd(z.c), got, x.Cache().Dirty())
		}
		seen, _ := x.Cache().Read(0, 0, 4)
		if z.dirty > 0 {
			seen = zeros(4)
		}
		d.Crash(nil)
		wantBlocks(t, "after a crash: "+showCmd(z.c), execOf(t, cached(t, d, 0)), 0, seen)
	}
}

// P14.2: what the cache writes to the store by itself is flushed by a flush, with an empty queue too.
func TestFlush(t *testing.T) {
	d := formatted(t, 4)
	x := execOf(t, cached(t, d, 0))
	wantCode(t, x, api.Cmd{Op: api.OpWrite, Host: "h", Data: blocks(1, 4)}, api.Good)
	if d.Held() == 0 {
		t.Error("a write without Fua is flushed")
	}
	wantCode(t, x, api.Cmd{Op: api.OpFlush, Host: "h"}, api.Good)
	if d.Held() != 0 {
		t.Error("not flushed")
	}
}
