package access

import (
	"fmt"
	"math"
	"reflect"
	"slices"
	"strings"
	"testing"

	"headgate/api"
)

// numbers are those around the types and the operations, and ones that would be such if some of their bits were lost.
func numbers() []int {
	l := []int{math.MinInt, math.MaxInt, math.MinInt32, math.MaxInt32, math.MinInt + 3, -1 << 8, 1000}
	for n := -20; n <= 40; n++ {
		l = append(l, n)
	}
	for n := range 16 {
		for _, shift := range []int{8, 16, 32} {
			l = append(l, n+1<<shift, n-1<<shift)
		}
	}
	return l
}

var (
	reading  = []int{2}
	changing = []int{3, 4, 5, 6, 7}
	hosts    = []string{"", "a", "b", "c", "ab", "A", "a\x00", "\xff", strings.Repeat("a", 1000)}
)

// tables are those of a type whose Hold is each host in turn, with registrants in many orders. Many are not good in the
// words of chapter 11, which the promises of chapter 10 don't ask for.
func tables(typ int) []api.Table {
	var l []api.Table
	for _, regs := range [][]string{nil, {}, {""}, {"a"}, {"b"}, {"a", "b"}, {"b", "a"}, {"a", "b", "c"}, {"c", "a"}, {"ab", "A"}, {"a", "a"}, {"b", "", "b"}, {"\xff"}} {
		for _, holder := range []string{"", "a", "b", "c", "ab"} {
			x := api.Table{Hold: api.Hold{Type: typ, Host: holder}, Gen: 7}
			for i, host := range regs {
				x.Regs = append(x.Regs, api.Reg{Host: host, Key: uint64(i)})
			}
			l = append(l, x)
		}
	}
	return l
}

func registered(x api.Table, host string) bool {
	for i := range x.Regs {
		if x.Regs[i].Host == host {
			return true
		}
	}
	return false
}

// held is P10.1's Holds in the chapter's words.
func held(x api.Table, host string) bool {
	switch x.Hold.Type {
	case 1, 2, 3, 4:
		return x.Hold.Host == host
	case 5, 6:
		return registered(x, host)
	}
	return false
}

// allowed is P10.2 in the chapter's words.
func allowed(x api.Table, host string, op int) bool {
	typ := x.Hold.Type
	reads, changes := slices.Contains(reading, op), slices.Contains(changing, op)
	if typ < 1 || typ > 6 || !reads && !changes || held(x, host) {
		return true
	}
	if changes {
		return typ >= 3 && registered(x, host)
	}
	switch typ {
	case 1, 3, 5:
		return true
	case 2:
		return false
	}
	return registered(x, host)
}

// P10.1: the types are 1 to 6.
func TestType(t *testing.T) {
	for _, n := range numbers() {
		if got, want := Type(n), slices.Contains([]int{1, 2, 3, 4, 5, 6}, n); got != want {
			t.Errorf("Type(%d): %v", n, got)
		}
	}
	for _, n := range []int{api.WriteExclusive, api.Exclusive, api.WriteRegistrants, api.Registrants, api.WriteAll, api.All} {
		if !Type(n) {
			t.Errorf("Type(%d)", n)
		}
	}
}

// P10.1: one operation reads, five change, and all others do neither.
func TestOperations(t *testing.T) {
	for _, op := range numbers() {
		if got, want := Reads(op), slices.Contains(reading, op); got != want {
			t.Errorf("Reads(%d): %v", op, got)
		}
		if got, want := Changes(op), slices.Contains(changing, op); got != want {
			t.Errorf("Changes(%d): %v", op, got)
		}
	}
	if !Reads(api.OpRead) {
		t.Error("a read does not read")
	}
	for _, op := range []int{api.OpWrite, api.OpUnmap, api.OpZero, api.OpCompare, api.OpFlush} {
		if !Changes(op) || Reads(op) {
			t.Errorf("operation %d", op)
		}
	}
	for _, op := range []int{api.OpReady, api.OpRegister, api.OpReserve, api.OpRelease, api.OpClear, api.OpPreempt, api.OpKeys, api.OpHolder, api.OpSize} {
		if Changes(op) || Reads(op) {
			t.Errorf("operation %d", op)
		}
	}
}

// P10.1 and P10.2: who of a holder, a registrant and a stranger may what, written out.
func TestTypes(t *testing.T) {
	for _, x := range []struct {
		typ                   int
		holder                string
		holds, read, changing string // of h (the Host of the Hold), r (registered) and s (a stranger), those who do
	}{
		{0, "", "", "hrs", "hrs"},
		{api.WriteExclusive, "h", "h", "hrs", "h"},
		{api.Exclusive, "h", "h", "h", "h"},
		{api.WriteRegistrants, "h", "h", "hrs", "hr"},
		{api.Registrants, "h", "h", "hr", "hr"},
		{api.WriteAll, "", "hr", "hrs", "hr"},
		{api.All, "", "hr", "hr", "hr"},
	} {
		table := api.Table{Regs: []api.Reg{{Host: "h", Key: 1}, {Host: "r", Key: 2}}, Hold: api.Hold{Type: x.typ, Host: x.holder}}
		for _, host := range []string{"h", "r", "s"} {
			if got := Holds(table, host); got != strings.Contains(x.holds, host) {
				t.Errorf("type %d, %s: holds: %v", x.typ, host, got)
			}
			if got := May(table, host, api.OpRead); got != strings.Contains(x.read, host) {
				t.Errorf("type %d, %s: may read: %v", x.typ, host, got)
			}
			for _, op := range changing {
				if got := May(table, host, op); got != strings.Contains(x.changing, host) {
					t.Errorf("type %d, %s: may execute %d: %v", x.typ, host, op, got)
				}
			}
		}
	}
}

// P10.1 and P10.2: all types with all registrants, holders, hosts and operations, against the chapter's words.
func TestAll(t *testing.T) {
	all := numbers()
	for typ := -2; typ <= 9; typ++ {
		for _, x := range tables(typ) {
			for _, host := range hosts {
				if got, want := Holds(x, host), held(x, host); got != want {
					t.Errorf("Holds(%#v, %.9q): %v", x, host, got)
				}
				for _, op := range all {
					if got, want := May(x, host, op), allowed(x, host, op); got != want {
						t.Errorf("May(%#v, %.9q, %d): %v", x, host, op, got)
					}
				}
			}
		}
	}
}

// P10.1 and P10.2: a Hold of no type is no reservation, whoever is named in it.
func TestNoReservation(t *testing.T) {
	for _, typ := range numbers() {
		if typ >= 1 && typ <= 6 {
			continue
		}
		for _, x := range tables(typ) {
			for _, host := range hosts {
				if Holds(x, host) {
					t.Errorf("Holds(%#v, %.9q)", x, host)
				}
				for op := -1; op <= 16; op++ {
					if !May(x, host, op) {
						t.Errorf("May(%#v, %.9q, %d)", x, host, op)
					}
				}
			}
		}
	}
}

// P10.1: with the types 1 to 4 the Host of the Hold holds, registered or not, and being registered is not enough.
func TestHolderAlone(t *testing.T) {
	for typ := api.WriteExclusive; typ <= api.Registrants; typ++ {
		x := api.Table{Regs: []api.Reg{{Host: "r", Key: 1}}, Hold: api.Hold{Type: typ, Host: "h"}}
		if !Holds(x, "h") || Holds(x, "r") {
			t.Errorf("type %d: %v, %v", typ, Holds(x, "h"), Holds(x, "r"))
		}
		for op := -1; op <= 16; op++ {
			if !May(x, "h", op) {
				t.Errorf("type %d: its holder may not execute %d", typ, op)
			}
		}
	}
}

// P10.1: with WriteAll and All whoever is registered holds, and the Host of the Hold counts for nothing.
func TestHoldersTogether(t *testing.T) {
	for _, typ := range []int{api.WriteAll, api.All} {
		x := api.Table{Regs: []api.Reg{{Host: "r", Key: 1}}, Hold: api.Hold{Type: typ, Host: "h"}}
		if Holds(x, "h") || !Holds(x, "r") || May(x, "h", api.OpWrite) || !May(x, "r", api.OpWrite) {
			t.Errorf("type %d: %v, %v, %v, %v", typ, Holds(x, "h"), Holds(x, "r"), May(x, "h", api.OpWrite), May(x, "r", api.OpWrite))
		}
		x = api.Table{Hold: api.Hold{Type: typ}}
		if Holds(x, "") || Holds(x, "a") || May(x, "", api.OpWrite) {
			t.Errorf("type %d: somebody holds what nobody is registered for", typ)
		}
	}
}

// P10.1 and P10.2: each registrant counts, wherever it stands in a list of any size, and whatever its key is.
func TestManyRegistrants(t *testing.T) {
	const many = 1000
	for typ := api.WriteExclusive; typ <= api.All; typ++ {
		x := api.Table{Hold: api.Hold{Type: typ, Host: "h"}}
		for i := range many {
			x.Regs = append(x.Regs, api.Reg{Host: fmt.Sprint("r", i), Key: uint64(i) << 60})
		}
		for i := range many {
			host := fmt.Sprint("r", i)
			if got := Holds(x, host); got != (typ >= api.WriteAll) {
				t.Errorf("type %d, %s: holds: %v", typ, host, got)
			}
			if got := May(x, host, api.OpWrite); got != (typ >= api.WriteRegistrants) {
				t.Errorf("type %d, %s: may write: %v", typ, host, got)
			}
			if got := May(x, host, api.OpRead); got != (typ != api.Exclusive) {
				t.Errorf("type %d, %s: may read: %v", typ, host, got)
			}
		}
		if Holds(x, "r1000") || May(x, "r1000", api.OpWrite) {
			t.Errorf("type %d: a stranger", typ)
		}
	}
}

// P10.2: no reservation forbids what neither reads nor changes, to nobody.
func TestNeither(t *testing.T) {
	for typ := api.WriteExclusive; typ <= api.All; typ++ {
		for _, x := range tables(typ) {
			for _, host := range hosts {
				for _, op := range []int{api.OpReady, api.OpRegister, api.OpReserve, api.OpRelease, api.OpClear, api.OpPreempt, api.OpKeys, api.OpHolder, api.OpSize, 0, 16, -1, math.MinInt, math.MaxInt} {
					if !May(x, host, op) {
						t.Errorf("May(%#v, %.9q, %d)", x, host, op)
					}
				}
			}
		}
	}
}

// P10.2: what a table tells beside its registrants and its reservation counts for nothing.
func TestBeside(t *testing.T) {
	for typ := -1; typ <= 7; typ++ {
		for _, x := range tables(typ) {
			y := x
			y.Gen, y.Aptpl = math.MaxUint32, true
			for _, host := range hosts {
				if Holds(x, host) != Holds(y, host) {
					t.Errorf("Holds(%#v, %.9q)", y, host)
				}
				for op := range 17 {
					if May(x, host, op) != May(y, host, op) {
						t.Errorf("May(%#v, %.9q, %d)", y, host, op)
					}
				}
			}
		}
	}
}

// P10.3: who may change may also read.
func TestChangingReads(t *testing.T) {
	for typ := -2; typ <= 9; typ++ {
		for _, x := range tables(typ) {
			for _, host := range hosts {
				for _, op := range changing {
					if May(x, host, op) && !May(x, host, api.OpRead) {
						t.Errorf("%#v: %.9q may execute %d and may not read", x, host, op)
					}
				}
			}
		}
	}
}

// A table that is asked stays as it is, with the spare capacity of its registrants.
func TestTableStays(t *testing.T) {
	for typ := range 8 {
		regs := []api.Reg{{Host: "a", Key: 1}, {Host: "b", Key: 2}, {Host: "c", Key: 3}, {Host: "d", Key: 4}}
		before := slices.Clone(regs)
		x := api.Table{Regs: regs[:2], Hold: api.Hold{Type: typ, Host: "a"}, Gen: 5, Aptpl: true}
		y := x
		for _, host := range []string{"a", "b", "c", "e"} {
			// What stands in the spare capacity is not registered.
			if got, want := Holds(x, host), held(x, host); got != want {
				t.Errorf("Holds(%#v, %q): %v", x, host, got)
			}
			for op := range 16 {
				if got, want := May(x, host, op), allowed(x, host, op); got != want {
					t.Errorf("May(%#v, %q, %d): %v", x, host, op, got)
				}
			}
		}
		if !reflect.DeepEqual(x, y) || !slices.Equal(regs, before) {
			t.Errorf("type %d: %#v, %#v", typ, x, regs)
		}
	}
}
