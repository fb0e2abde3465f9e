package exec

import (
	"fmt"
	"math"
	"math/rand"
	"slices"
	"strings"
	"testing"
	"unsafe"

	"headgate/api"
	"headgate/dev"
	"headgate/image"
	"headgate/resv"
)

// act is a command on a table in few words: the host's first letter tells its key.
func act(op int, host string, typ int) api.Cmd {
	return api.Cmd{Op: op, Host: host, Key: keyOf(host), Type: typ}
}

// wantTold takes all that is pending for a host at a unit.
func wantTold(t *testing.T, what string, x *Exec, lun int, host string, whys ...int) {
	t.Helper()
	var got []int
	for x.Units().Wait(lun, host) > 0 && len(got) < 9 {
		why, _ := x.Units().Take(lun, host)
		got = append(got, why)
	}
	if !slices.Equal(got, whys) {
		t.Errorf("%s: %s is told %v at %d, want %v", what, host, got, lun, whys)
	}
}

// wantQuiet holds that nothing is pending at any unit.
func wantQuiet(t *testing.T, what string, x *Exec) {
	t.Helper()
	for lun := range api.MaxLuns {
		if l := x.Units().Hosts(lun); len(l) != 0 {
			t.Errorf("%s: pending at %d for %q", what, lun, l)
		}
	}
}

// P14.2: the operations on tables change the table of their unit alone, and answer the code of resv.Do.
func TestTables(t *testing.T) {
	x := made(t, 4, 4, 4)
	register(t, x, 1, "a", "b", "c")
	wantCode(t, x, api.Cmd{Op: api.OpRegister, Lun: 1, Host: "a", Key: 2, NewKey: 9}, api.Conflict)
	wantCode(t, x, api.Cmd{Op: api.OpRegister, Lun: 1, Host: "a", Key: 2, NewKey: 9, Ignore: true}, api.Good)
	wantCode(t, x, api.Cmd{Op: api.OpReserve, Lun: 1, Host: "a", Key: 1, Type: api.All}, api.Conflict)
	wantCode(t, x, api.Cmd{Op: api.OpReserve, Lun: 1, Host: "a", Key: 9, Type: 7}, api.Wrong)
	wantCode(t, x, api.Cmd{Op: api.OpReserve, Lun: 1, Host: "a", Key: 9, Type: api.Registrants}, api.Good)
	table := api.Table{Regs: []api.Reg{{Host: "a", Key: 9}, {Host: "b", Key: 2}, {Host: "c", Key: 3}}, Hold: api.Hold{Type: api.Registrants, Host: "a"}, Gen: 4}
	wantTable(t, "reserved", x.Table(1), table)
	wantCode(t, x, api.Cmd{Op: api.OpRelease, Lun: 1, Host: "a", Key: 9, Type: api.All}, api.Wrong)
	wantCode(t, x, api.Cmd{Op: api.OpPreempt, Lun: 1, Host: "b", Key: 2, Type: api.All}, api.Wrong)
	wantCode(t, x, api.Cmd{Op: api.OpPreempt, Lun: 1, Host: "b", Key: 2, Type: api.All, Other: 77}, api.Conflict)
	wantCode(t, x, api.Cmd{Op: api.OpClear, Lun: 1, Host: "d", Key: 2}, api.Conflict)
	wantTable(t, "nothing changed", x.Table(1), table)
	wantQuiet(t, "nothing changed", x)
	wantCode(t, x, api.Cmd{Op: api.OpPreempt, Lun: 1, Host: "b", Key: 2, Type: api.Exclusive, Other: 9}, api.Good)
	wantTable(t, "preempted", x.Table(1), api.Table{Regs: table.Regs[1:], Hold: api.Hold{Type: api.Exclusive, Host: "b"}, Gen: 5})
	wantTold(t, "preempted", x, 1, "a", api.WhyPreempted)
	wantCode(t, x, api.Cmd{Op: api.OpClear, Lun: 1, Host: "c", Key: 3}, api.Good)
	wantTable(t, "cleared", x.Table(1), api.Table{Gen: 6})
	wantTold(t, "cleared", x, 1, "b", api.WhyCleared)
	wantQuiet(t, "all told", x)
	for _, lun := range []int{0, 2} {
		wantTable(t, "another unit", x.Table(lun), api.Table{})
	}
}

// P14.2: the seventeenth registrant.
func TestTooMany(t *testing.T) {
	x := made(t, 4, 4)
	for i := range api.MaxHosts {
		wantCode(t, x, api.Cmd{Op: api.OpRegister, Host: fmt.Sprint("host", i), NewKey: 5}, api.Good)
	}
	before := x.Table(0)
	wantCode(t, x, api.Cmd{Op: api.OpRegister, Host: "h", NewKey: 5, Aptpl: api.AptplOn}, api.Broken)
	wantTable(t, "full", x.Table(0), before)
	wantCode(t, x, api.Cmd{Op: api.OpRegister, Host: "h", NewKey: 5, Lun: 1}, api.Good)
}

// P14.2: each kind of event is passed on, in order, to the hosts of that unit; the requester is not told (P11.4).
func TestTold(t *testing.T) {
	for _, z := range []struct {
		typ   int
		c     api.Cmd
		whys  map[string]int
		other uint64
	}{
		{api.WriteRegistrants, act(api.OpRelease, "a", api.WriteRegistrants), map[string]int{"b": api.WhyReleased}, 0},
		{api.All, act(api.OpRelease, "b", api.All), map[string]int{"a": api.WhyReleased}, 0},
		{api.Exclusive, act(api.OpRelease, "a", api.Exclusive), nil, 0},
		{api.Exclusive, act(api.OpClear, "b", 0), map[string]int{"a": api.WhyCleared}, 0},
		{api.Exclusive, act(api.OpPreempt, "b", api.All), map[string]int{"a": api.WhyPreempted}, 1},
		{api.Registrants, act(api.OpRegister, "a", 0), map[string]int{"b": api.WhyReleased}, 0},
		{api.WriteExclusive, act(api.OpRegister, "a", 0), nil, 0},
	} {
		x := reserved(t, z.typ, 4, 4)
		z.c.Other = z.other
		for _, z.c.Lun = range []int{1, 0} {
			got := x.Do(z.c).Code
			if z.c.Lun == 1 {
				wantQuiet(t, "another unit", x)
			} else if got != api.Good {
				t.Errorf("%s: %d", showCmd(z.c), got)
			}
		}
		for _, host := range []string{"a", "b", "c"} {
			var whys []int
			if z.whys[host] != 0 {
				whys = []int{z.whys[host]}
			}
			wantTold(t, showCmd(z.c), x, 0, host, whys...)
		}
		wantQuiet(t, showCmd(z.c), x)
	}
}

// P14.2: what is pending stays until it is taken, whatever is executed.
func TestToldLater(t *testing.T) {
	x := reserved(t, api.All, 4, 4)
	wantCode(t, x, act(api.OpRelease, "a", api.All), api.Good)
	wantCode(t, x, act(api.OpReserve, "a", api.All), api.Good)
	wantCode(t, x, act(api.OpClear, "a", 0), api.Good)
	for op := api.OpReady; op <= api.OpSize; op++ {
		x.Do(api.Cmd{Op: op, Host: "b"})
	}
	wantTold(t, "later", x, 0, "b", api.WhyReleased, api.WhyCleared)
	wantQuiet(t, "all told", x)
}

// P14.2: what OpKeys and OpHolder tell, with and without registrations and each reservation.
func TestKeysAndHolder(t *testing.T) {
	x := made(t, 4, 4)
	want(t, x, api.Cmd{Op: api.OpKeys, Host: "h"}, api.Out{Code: api.Good})
	want(t, x, api.Cmd{Op: api.OpHolder, Host: "h"}, api.Out{Code: api.Good})
	register(t, x, 0, "b", "a")
	regs := []api.Reg{{Host: "b", Key: 2}, {Host: "a", Key: 1}}
	want(t, x, api.Cmd{Op: api.OpKeys, Host: "h"}, api.Out{Code: api.Good, Regs: regs, Gen: 2})
	want(t, x, api.Cmd{Op: api.OpHolder, Host: "h"}, api.Out{Code: api.Good, Gen: 2})
	for typ := api.WriteExclusive; typ <= api.All; typ++ {
		wantCode(t, x, act(api.OpReserve, "a", typ), api.Good)
		hold := api.Hold{Type: typ}
		if typ <= api.Registrants {
			hold.Host = "a"
		}
		for _, host := range []string{"a", "b", "c"} {
			want(t, x, api.Cmd{Op: api.OpKeys, Host: host}, api.Out{Code: api.Good, Regs: regs, Gen: 2})
			want(t, x, api.Cmd{Op: api.OpHolder, Host: host}, api.Out{Code: api.Good, Regs: regs, Gen: 2, Hold: hold})
		}
		want(t, x, api.Cmd{Op: api.OpHolder, Host: "a", Lun: 1}, api.Out{Code: api.Good})
		want(t, x, api.Cmd{Op: api.OpKeys, Host: "a", Lun: 1}, api.Out{Code: api.Good})
		wantCode(t, x, act(api.OpRelease, "a", typ), api.Good)
	}
}

// P14.2: the record of a unit, command by command: with Aptpl it is the table's image, and without it is empty.
func TestAptpl(t *testing.T) {
	d := formatted(t, 4, 4)
	x := execOf(t, cached(t, d, 256))
	for i, z := range []struct {
		c       api.Cmd
		records bool // or else the device is left alone
	}{
		{act(api.OpRegister, "a", 0), false},
		{api.Cmd{Op: api.OpRegister, Host: "a", NewKey: 1}, false},
		{api.Cmd{Op: api.OpRegister, Host: "b", NewKey: 2, Aptpl: api.AptplOff}, false},
		{act(api.OpReserve, "a", api.WriteAll), false},
		{api.Cmd{Op: api.OpRegister, Host: "b", Key: 2, NewKey: 2, Aptpl: api.AptplOn}, true},
		{act(api.OpReserve, "a", api.WriteAll), false}, // as it is
		{act(api.OpReserve, "b", api.WriteAll), false},
		{act(api.OpReserve, "b", api.All), false}, // a conflict
		{act(api.OpRelease, "b", api.All), false}, // wrong
		{api.Cmd{Op: api.OpRegister, Host: "c", Aptpl: api.AptplOn}, false},
		{api.Cmd{Op: api.OpRegister, Host: "c", NewKey: 3}, true},
		{api.Cmd{Op: api.OpPreempt, Host: "c", Key: 3, Other: 2, Type: api.All}, true},
		{act(api.OpRelease, "c", api.WriteAll), true},
		{act(api.OpRelease, "c", api.WriteAll), false},
		{act(api.OpReserve, "c", api.Exclusive), true},
		{api.Cmd{Op: api.OpRegister, Host: "d", Aptpl: api.AptplOff}, true},
		{api.Cmd{Op: api.OpRegister, Host: "d", NewKey: 4}, false},
		{api.Cmd{Op: api.OpRegister, Host: "d", Key: 4, NewKey: 4, Aptpl: api.AptplOn}, true},
		{act(api.OpClear, "d", 0), true},
		{api.Cmd{Op: api.OpRegister, Host: "d", NewKey: 4, Aptpl: api.AptplOff}, true},
		{act(api.OpClear, "d", 0), false},
		{api.Cmd{Op: api.OpRegister, Host: "d", Aptpl: api.AptplOn}, true},
		{api.Cmd{Op: api.OpRegister, Host: "d", NewKey: 4}, true},
	} {
		wantCode(t, x, api.Cmd{Op: api.OpWrite, Host: "c", Lun: 1, Data: blocks(i, 1)}, api.Good)
		ops, dirty := d.Ops(), x.Cache().Dirty()
		x.Do(z.c)
		table := x.Table(0)
		record, _ := x.Cache().Store().Recorded(0)
		text, _ := image.Encode(table)
		if !table.Aptpl {
			text = ""
		}
		if record != text {
			t.Errorf("command %d, %s: another record", i, showCmd(z.c))
		}
		if z.records && (x.Cache().Dirty() != 0 || d.Held() != 0) || !z.records && (d.Ops() != ops || x.Cache().Dirty() != dirty) {
			t.Errorf("command %d, %s: written through or not, %d blocks are dirty", i, showCmd(z.c), x.Cache().Dirty())
		}
		if other, _ := x.Cache().Store().Recorded(1); other != "" {
			t.Error("another unit's record")
		}
	}
}

// F5, P14.1: after a loss of power the table is that of the last change with Aptpl, and nothing is pending.
func TestPower(t *testing.T) {
	for _, aptpl := range []int{api.AptplOn, api.AptplOff, api.AptplSame} {
		d := formatted(t, 4, 4)
		x := execOf(t, cached(t, d, 256))
		register(t, x, 0, "a", "b", "c")
		wantCode(t, x, act(api.OpReserve, "a", api.Registrants), api.Good)
		wantCode(t, x, api.Cmd{Op: api.OpRegister, Host: "b", Key: 2, NewKey: 7, Aptpl: aptpl}, api.Good)
		wantCode(t, x, api.Cmd{Op: api.OpPreempt, Host: "b", Key: 7, Other: 3, Type: api.All}, api.Good)
		before := x.Table(0)
		d.Crash(nil)
		x = execOf(t, cached(t, d, 256))
		meant := api.Table{}
		if aptpl == api.AptplOn {
			meant = before
		}
		wantTable(t, fmt.Sprint("Aptpl ", aptpl), x.Table(0), meant)
		wantTable(t, "another unit", x.Table(1), api.Table{})
		wantQuiet(t, "after a loss of power", x)
	}
}

// P14.2: with the device down, Broken is what needs it; then the table stays, and nobody is told.
func TestBroken(t *testing.T) {
	for _, most := range []int{0, 256} {
		d := formatted(t, 8, 4)
		x := execOf(t, cached(t, d, most))
		wantCode(t, x, api.Cmd{Op: api.OpRegister, Host: "a", NewKey: 1, Aptpl: api.AptplOn}, api.Good)
		register(t, x, 0, "b")
		register(t, x, 1, "a", "b")
		wantCode(t, x, act(api.OpReserve, "a", api.All), api.Good)
		down(d)
		table := x.Table(0)
		for _, c := range []api.Cmd{
			{Op: api.OpRead, Blocks: 1}, {Op: api.OpWrite, Lba: 4, Data: blocks(1, 1), Fua: true}, {Op: api.OpWrite, Fua: true}, {Op: api.OpFlush},
			{Op: api.OpCompare, Data: zeros(2)}, {Op: api.OpCompare, Data: blocks(1, 2)}, {Op: api.OpRegister, Key: 1, NewKey: 5}, {Op: api.OpRegister, Key: 1},
			{Op: api.OpRegister, Key: 1, NewKey: 1, Aptpl: api.AptplOff}, {Op: api.OpRelease, Key: 1, Type: api.All}, {Op: api.OpClear, Key: 1},
			{Op: api.OpPreempt, Key: 1, Other: 2, Type: api.All}, {Op: api.OpPreempt, Key: 1, Type: api.All},
			{Op: api.OpRegister, Lun: 1, Key: 1, NewKey: 1, Aptpl: api.AptplOn},
		} {
			c.Host = "a"
			wantCode(t, x, c, api.Broken)
			wantTable(t, showCmd(c), x.Table(0), table)
			wantQuiet(t, showCmd(c), x)
		}
		for _, c := range []api.Cmd{
			{Op: api.OpReady}, {Op: api.OpRegister, Key: 2, Lun: 1, NewKey: 6}, {Op: api.OpReserve, Lun: 1, Key: 6, Type: api.WriteAll},
			{Op: api.OpRelease, Lun: 1, Key: 6, Type: api.WriteAll}, {Op: api.OpReserve, Key: 2, Type: api.All}, {Op: api.OpClear, Lun: 1, Key: 6},
			{Op: api.OpRead, Lba: 8}, // no blocks
		} {
			c.Host = "b"
			wantCode(t, x, c, api.Good)
		}
		wantTold(t, "without Aptpl", x, 1, "a", api.WhyReleased, api.WhyCleared)
		want(t, x, api.Cmd{Op: api.OpSize, Host: "c"}, api.Out{Code: api.Good, N: 8})
		want(t, x, api.Cmd{Op: api.OpHolder, Host: "c"}, api.Out{Code: api.Good, Regs: table.Regs, Gen: table.Gen, Hold: table.Hold})
		want(t, x, api.Cmd{Op: api.OpKeys, Host: "c"}, api.Out{Code: api.Good, Regs: table.Regs, Gen: table.Gen})
		// Everything else that is wrong comes ahead.
		wantCode(t, x, api.Cmd{Op: api.OpRead, Host: "c", Lba: 9}, api.Conflict)
		wantCode(t, x, api.Cmd{Op: api.OpRead, Host: "b", Lba: 9}, api.Beyond)
		wantCode(t, x, api.Cmd{Op: api.OpRead, Host: "b", Blocks: 65}, api.Wrong)
		wantCode(t, x, api.Cmd{Op: api.OpFlush, Host: "b", Lun: 2}, api.NoUnit)
		wantCode(t, x, api.Cmd{Op: api.OpFlush, Host: "B"}, api.Wrong)
		wantCode(t, x, api.Cmd{Op: api.OpClear, Host: "b", Key: 9}, api.Conflict)
	}
}

// P14.2: changes that the cache can hold back are Good though the device is down, and others are Broken.
func TestHeldDown(t *testing.T) {
	d := formatted(t, 8)
	x := execOf(t, cached(t, d, 4))
	down(d)
	for i, z := range []struct {
		c    api.Cmd
		code int
	}{
		{api.Cmd{Op: api.OpWrite, Data: blocks(1, 2)}, api.Good},
		{api.Cmd{Op: api.OpCompare, Data: blocks(1, 2)}, api.Good},
		{api.Cmd{Op: api.OpZero, Lba: 1, Blocks: 1}, api.Good},
		{api.Cmd{Op: api.OpUnmap, Ranges: []api.Range{{Lba: 1, Blocks: 1}}}, api.Broken},
		{api.Cmd{Op: api.OpZero, Lba: 1, Blocks: 1}, api.Broken},
		{api.Cmd{Op: api.OpWrite, Data: blocks(1, 1)}, api.Broken},
		{api.Cmd{Op: api.OpCompare, Data: blocks(1, 1) + zeros(1)}, api.Broken},
		{api.Cmd{Op: api.OpRead, Lba: 1, Blocks: 2}, api.Broken},
	} {
		z.c.Host = "h"
		if got := x.Do(z.c).Code; got != z.code {
			t.Errorf("command %d: %d, want %d", i, got, z.code)
		}
	}
}

// P14.2: a device that goes down in the midst of a command, at each of its operations: the outcome is Broken, the table is
// still the previous one, and after the crash it is the previous or the new one.
func TestGoingDown(t *testing.T) {
	c := api.Cmd{Op: api.OpPreempt, Host: "b", Key: 2, Other: 1, Type: api.Exclusive}
	good := 0
	for ops := 0; good == 0 && ops < 100; ops++ {
		for keep := range 2 {
			d := formatted(t, 4)
			x := execOf(t, cached(t, d, 256))
			wantCode(t, x, api.Cmd{Op: api.OpRegister, Host: "a", NewKey: 1, Aptpl: api.AptplOn}, api.Good)
			register(t, x, 0, "b")
			wantCode(t, x, act(api.OpReserve, "a", api.WriteAll), api.Good)
			wantCode(t, x, api.Cmd{Op: api.OpReserve, Host: "a", Key: 1, Type: api.All}, api.Conflict)
			wantCode(t, x, api.Cmd{Op: api.OpWrite, Host: "a", Data: blocks(1, 2)}, api.Good)
			before := x.Table(0)
			after, _, _ := resv.Do(before, c)
			d.Arm(ops)
			switch code := x.Do(c).Code; {
			case code == api.Good:
				good++
				wantTable(t, "good", x.Table(0), after)
				wantTold(t, "good", x, 0, "a", api.WhyPreempted)
			case code != api.Broken:
				t.Error(code)
			default:
				wantTable(t, "broken", x.Table(0), before)
				wantQuiet(t, "broken", x)
			}
			d.Crash(slices.Repeat([]int{keep * 512}, d.Held()))
			got := execOf(t, cached(t, d, 256)).Table(0)
			if !sameTable(got, after) && (good > 0 || !sameTable(got, before)) {
				t.Errorf("after %d operations: %+v", ops, got)
			}
		}
	}
	if good == 0 {
		t.Error("never good")
	}
}

// P14.3: every command of a great many kinds, on an executor in the midst of its life: what is not Good changes nothing.
func TestNothingChanged(t *testing.T) {
	b := bothOf(t, 9, 6, 70)
	for lun := range 2 {
		for _, c := range []api.Cmd{
			{Op: api.OpRegister, Host: "a", NewKey: 1, Aptpl: api.AptplOn}, {Op: api.OpRegister, Host: "b", NewKey: 2}, {Op: api.OpReserve, Host: "a", Key: 1, Type: api.All},
			{Op: api.OpRelease, Host: "b", Key: 2, Type: api.All}, {Op: api.OpReserve, Host: "a", Key: 1, Type: api.WriteExclusive}, {Op: api.OpWrite, Host: "a", Lba: 1, Data: blocks(1, 4)},
		} {
			c.Lun = lun
			if code := b.do(t, c); code != api.Good {
				t.Fatalf("%s: %d", showCmd(c), code)
			}
		}
	}
	codes := map[int]int{}
	for _, c := range manyCommands() {
		if !wouldBeGood(b.m, c) {
			codes[b.do(t, c)]++
		}
	}
	for _, code := range []int{api.Conflict, api.Differ, api.Beyond, api.Wrong, api.NoUnit} {
		if codes[code] == 0 {
			t.Error("no command with the code", code)
		}
	}
	if codes[api.Good] != 0 || codes[api.Broken] != 0 {
		t.Error(codes)
	}
	b.agreeAll(t)
}

// wouldBeGood tells whether nothing is wrong with a command, where a holds WriteExclusive; of a compare, whether it may be
// that nothing is.
func wouldBeGood(m *model, c api.Cmd) bool {
	if c.Lun < 0 || c.Lun > 1 {
		return false
	}
	switch c.Op {
	case api.OpRegister, api.OpReserve, api.OpRelease, api.OpClear, api.OpPreempt:
		_, _, code := resv.Do(m.tables[c.Lun], c)
		return code == api.Good
	case api.OpRead:
		return c.Blocks >= 0 && c.Blocks <= 64 && !m.lacks(c.Lun, c.Lba, c.Blocks)
	case api.OpWrite:
		return c.Host == "a" && len(c.Data)%512 == 0 && len(c.Data) <= 64*512 && !m.lacks(c.Lun, c.Lba, len(c.Data)/512)
	case api.OpZero:
		return c.Host == "a" && !m.lacks(c.Lun, c.Lba, c.Blocks)
	case api.OpUnmap:
		return c.Host == "a" && !slices.ContainsFunc(c.Ranges, func(r api.Range) bool { return m.lacks(c.Lun, r.Lba, r.Blocks) })
	case api.OpFlush:
		return c.Host == "a"
	case api.OpCompare:
		return c.Host == "a" && c.Data == ""
	}
	return c.Op >= 1 && c.Op <= 15
}

// manyCommands are of each operation, host and unit, with numbers beside all edges.
func manyCommands() []api.Cmd {
	var l []api.Cmd
	numbers := []int{math.MinInt, -1, 0, 1, 5, 6, 7, 64, 65, 70, 71, 4097, math.MaxInt}
	for op := 0; op <= 16; op++ {
		for _, host := range []string{"a", "b", "c"} {
			for _, lun := range []int{-1, 0, 1, 2} {
				for i, n := range numbers {
					for j, v := range numbers {
						c := api.Cmd{Op: op, Lun: lun, Host: host, Lba: n, Blocks: v, Ranges: []api.Range{{}, {Lba: n, Blocks: v}}}
						c.Key, c.NewKey, c.Other, c.Type, c.Aptpl = uint64(i%4), uint64(j%3), uint64((i+j)%4), j-2, i%3
						c.Data = blocks(i, min(max(v, 0), 71))
						if i%5 == 4 {
							c.Data += noise(j, 300)
						}
						l = append(l, c)
					}
				}
			}
		}
	}
	return l
}

// P14.2, P14.3, P14.4: long lives against the chapter's words, on caches of all kinds.
func TestLives(t *testing.T) {
	lists := [][]int{{1}, {5, 2}, {70}, {30, 1, 64}, {1, 2, 3, 4, 5, 6, 7, 8}}
	mosts := []int{0, 1, 5, 40, 100, 256}
	codes := map[int]int{}
	for seed := range 60 {
		r := rand.New(rand.NewSource(int64(seed)))
		b := bothOf(t, mosts[seed%len(mosts)], lists[seed%len(lists)]...)
		for range 300 {
			codes[b.do(t, anyCmd(r, b.m))]++
		}
		b.agreeAll(t)
	}
	for _, code := range []int{api.Good, api.Conflict, api.Differ, api.Beyond, api.Wrong, api.NoUnit} {
		if codes[code] < 50 {
			t.Errorf("code %d: %d times", code, codes[code])
		}
	}
	if codes[api.Told] != 0 {
		t.Error("nothing here is told by the outcome")
	}
}

// P14.2, F5: long lives whose device goes down at any operation, and comes again with any writes lost, kept or torn.
func TestLivesWithCrashes(t *testing.T) {
	lists := [][]int{{1}, {5, 2}, {30, 1, 64}, {1, 2, 3, 4, 5, 6, 7, 8}}
	mosts := []int{0, 2, 9, 256}
	broken, kept := 0, 0
	for seed := range 60 {
		r := rand.New(rand.NewSource(int64(seed)))
		b := bothOf(t, mosts[seed/4%len(mosts)], lists[seed%len(lists)]...)
		for range 12 {
			armed := r.Intn(80)
			b.d.Arm(armed)
			b.m.d.Arm(armed)
			for range r.Intn(40) {
				if b.do(t, anyCmd(r, b.m)) == api.Broken && b.d.Down() {
					broken++
				}
			}
			b.crash(t, anyKeep(r, b.d))
			for _, x := range b.m.tables {
				kept += len(x.Regs)
			}
		}
	}
	if broken < 100 || kept < 50 {
		t.Error(broken, kept)
	}
}

func anyKeep(r *rand.Rand, d *dev.Dev) []int {
	keep := make([]int, d.Held())
	for i := range keep {
		keep[i] = []int{0, 512, r.Intn(513)}[r.Intn(3)]
	}
	return keep
}

// Rule 2: results are in memory of their own, and changing them changes nothing.
func TestResults(t *testing.T) {
	x := reserved(t, api.Exclusive, 4)
	asked := func() []api.Table {
		keys, holder := x.Do(api.Cmd{Op: api.OpKeys, Host: "a"}), x.Do(api.Cmd{Op: api.OpHolder, Host: "a"})
		return []api.Table{x.Table(0), x.Table(0), {Regs: keys.Regs}, {Regs: holder.Regs, Hold: holder.Hold}}
	}
	before := fmt.Sprint(asked())
	seen := map[*byte]bool{}
	for _, table := range append(asked(), x.tables...) {
		texts := []string{table.Hold.Host}
		for _, r := range table.Regs {
			texts = append(texts, r.Host)
		}
		for _, s := range texts {
			if s == "" {
				continue
			}
			if p := unsafe.StringData(s); seen[p] {
				t.Errorf("the memory of %s is shared", s)
			} else {
				seen[p] = true
			}
		}
	}
	for _, table := range asked() {
		table.Regs[0] = api.Reg{Host: "z", Key: 99}
		for i := range table.Regs[:cap(table.Regs)] {
			table.Regs[:cap(table.Regs)][i].Key = 77
		}
	}
	if got := fmt.Sprint(asked()); got != before {
		t.Error("a result is shared", got)
	}
	wantCode(t, x, api.Cmd{Op: api.OpWrite, Host: "a", Data: blocks(1, 2)}, api.Good)
	c := api.Cmd{Op: api.OpRead, Host: "a", Blocks: 2}
	if p, q := x.Do(c).Data, x.Do(c).Data; unsafe.StringData(p) == unsafe.StringData(q) {
		t.Error("two reads share memory")
	}
}

// lent is a text that changes with b, as no text may that is kept.
func lent(b []byte) string { return unsafe.String(&b[0], len(b)) }

// Rule 2: arguments are not changed, including what stands behind a slice's end; and what an executor has made of them does
// not change with them.
func TestArguments(t *testing.T) {
	x := made(t, 4)
	l := []api.Range{{Lba: 0, Blocks: 1}, {Lba: 2, Blocks: 2}, {Lba: 77, Blocks: 7}}
	data, host := []byte(blocks(1, 4)), []byte("abc")
	wantCode(t, x, api.Cmd{Op: api.OpWrite, Host: lent(host), Data: lent(data)}, api.Good)
	wantCode(t, x, api.Cmd{Op: api.OpUnmap, Host: lent(host), Ranges: l[:2]}, api.Good)
	wantCode(t, x, api.Cmd{Op: api.OpRegister, Host: lent(host), NewKey: 1}, api.Good)
	wantCode(t, x, api.Cmd{Op: api.OpReserve, Host: lent(host), Key: 1, Type: api.Exclusive}, api.Good)
	if !slices.Equal(l, []api.Range{{Lba: 0, Blocks: 1}, {Lba: 2, Blocks: 2}, {Lba: 77, Blocks: 7}}) || string(data) != blocks(1, 4) {
		t.Error("an argument was changed")
	}
	l[0], l[1] = api.Range{Lba: 1, Blocks: 1}, api.Range{Lba: -5, Blocks: 1 << 40}
	clear(data)
	copy(host, "xyz")
	table := api.Table{Regs: []api.Reg{{Host: "abc", Key: 1}}, Hold: api.Hold{Type: api.Exclusive, Host: "abc"}, Gen: 1}
	wantTable(t, "lent", x.Table(0), table)
	wantBlocks(t, "lent", x, 0, zeros(1)+blocks(1, 4)[512:1024]+zeros(2))
}

// Rule 6: numbers that no command should have.
func TestAnyNumbers(t *testing.T) {
	x := reserved(t, api.WriteAll, 4)
	numbers := append([]int{0, 1, 5, 100}, extremes...)
	for op := -1; op <= 17; op++ {
		for _, a := range numbers {
			for _, b := range numbers {
				c := api.Cmd{Op: op, Host: "a", Lba: a, Blocks: b, Data: strings.Repeat("d", 1024), Key: uint64(a), Other: uint64(b), NewKey: uint64(b), Type: a, Aptpl: b, Ranges: []api.Range{{Lba: a, Blocks: b}}}
				code := x.Do(c).Code
				if code < api.Good || code > api.Broken || code == api.Told || !resv.Good(x.Table(0)) {
					t.Fatalf("%s: %d, %+v", showCmd(c), code, x.Table(0))
				}
			}
		}
	}
}

// Ways: the rows are prepared only once.
func TestRowsOnce(t *testing.T) {
	x := made(t, 4)
	wantCode(t, x, api.Cmd{Op: api.OpReady, Host: "a"}, api.Good)
	x.rows[api.OpReady].effect = (*Exec).size
	want(t, x, api.Cmd{Op: api.OpReady, Host: "a"}, api.Out{Code: api.Good, N: 4})
}
