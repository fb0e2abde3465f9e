package resv

import (
	"fmt"
	"math"
	"math/rand"
	"reflect"
	"slices"
	"strings"
	"testing"
	"unsafe"

	"headgate/access"
	"headgate/api"
)

// regs are registrants out of words like a1: a host of one letter, and its key.
func regs(words string) []api.Reg {
	var l []api.Reg
	for _, w := range strings.Fields(words) {
		l = append(l, api.Reg{Host: w[:1], Key: uint64(w[1] - '0')})
	}
	return l
}

func table(words string, typ int, host string) api.Table {
	return api.Table{Regs: regs(words), Hold: api.Hold{Type: typ, Host: host}, Gen: 7}
}

// many are n registrants, all with names and keys of their own.
func many(n int) []api.Reg {
	var l []api.Reg
	for i := range n {
		l = append(l, api.Reg{Host: fmt.Sprint("host", i), Key: uint64(i + 1)})
	}
	return l
}

func sameTable(x, y api.Table) bool {
	return slices.Equal(x.Regs, y.Regs) && x.Hold == y.Hold && x.Gen == y.Gen && x.Aptpl == y.Aptpl
}

// deepCopy is t in memory of its own, made without the package's help.
func deepCopy(t api.Table) api.Table {
	t.Regs = append([]api.Reg(nil), t.Regs...)
	return t
}

// smallTables are all good ones of some of the hosts a, b and c, in each order, with the keys 1 and 2.
func smallTables() []api.Table {
	lists := [][]api.Reg{nil}
	for at := 0; at < len(lists); at++ {
		for _, host := range []string{"a", "b", "c"} {
			for key := uint64(1); key <= 2; key++ {
				if slices.ContainsFunc(lists[at], func(r api.Reg) bool { return r.Host == host }) {
					continue
				}
				lists = append(lists, append(slices.Clone(lists[at]), api.Reg{Host: host, Key: key}))
			}
		}
	}
	var l []api.Table
	for i, regs := range lists {
		holds := []api.Hold{{}, {Type: api.WriteAll}, {Type: api.All}}
		for typ := api.WriteExclusive; typ <= api.Registrants; typ++ {
			for _, r := range regs {
				holds = append(holds, api.Hold{Type: typ, Host: r.Host})
			}
		}
		for j, h := range holds {
			t := api.Table{Regs: regs, Hold: h, Gen: uint32(7 * i), Aptpl: (i+j)%2 == 1}
			if h.Type < api.WriteAll || len(regs) > 0 {
				l = append(l, t)
			}
		}
	}
	return l
}

// smallCommands are those of the hosts of the small tables and of one more, with the keys of any of them, others and 0.
func smallCommands() []api.Cmd {
	var l []api.Cmd
	for _, host := range []string{"a", "b", "c", "d"} {
		for key := range uint64(4) {
			for mode := range 20 {
				for _, to := range []uint64{0, 2, math.MaxUint64} {
					l = append(l, api.Cmd{Op: api.OpRegister, Host: host, Key: key, NewKey: to, Ignore: mode%2 == 1, Aptpl: mode/2 - 3})
				}
			}
			l = append(l, api.Cmd{Op: api.OpClear, Host: host, Key: key})
			for typ := -1; typ <= 7; typ++ {
				l = append(l, api.Cmd{Op: api.OpReserve, Host: host, Key: key, Type: typ}, api.Cmd{Op: api.OpRelease, Host: host, Key: key, Type: typ})
				for other := range uint64(4) {
					l = append(l, api.Cmd{Op: api.OpPreempt, Host: host, Key: key, Type: typ, Other: other})
				}
			}
		}
	}
	return l
}

// compare asks Do and the model about one command, and what P11.3 and P11.4 say of its results.
func compare(t *testing.T, x api.Table, c api.Cmd) api.Table {
	t.Helper()
	got, l, code := Do(x, c)
	want, wantEvents, wantCode := modelDo(x, c)
	if !sameTable(got, want) || !slices.Equal(l, wantEvents) || code != wantCode {
		t.Errorf("Do(%#v, %#v): %#v, %#v, %d", x, c, got, l, code)
	}
	if modelGood(x) && !modelGood(got) {
		t.Errorf("P11.3: Do(%#v, %#v): %#v", x, c, got)
	}
	for _, e := range l {
		if e.Host == c.Host {
			t.Errorf("P11.4: Do(%#v, %#v): %#v", x, c, l)
		}
	}
	return got
}

// P11.2, P11.3 and P11.4: each command on each small table.
func TestSmall(t *testing.T) {
	commands := smallCommands()
	for _, x := range smallTables() {
		if !modelGood(x) {
			t.Fatalf("%#v is not good", x)
		}
		for _, c := range commands {
			if compare(t, x, c); t.Failed() {
				return
			}
		}
	}
}

// P11.2, P11.3 and P11.4: long lives of tables with more hosts than may be registered.
func TestLives(t *testing.T) {
	for seed := range int64(60) {
		r := rand.New(rand.NewSource(seed))
		x := api.Table{Gen: math.MaxUint32 - uint32(r.Intn(100))}
		hosts, keys := 2+r.Intn(20), 1+r.Intn(20)
		for range 3000 {
			c := randomCommand(r, x, hosts, keys)
			// The effect of commands that empty a table is seen often enough if they are few.
			if (c.Op == api.OpClear || c.NewKey == 0 && c.Op == api.OpRegister) && r.Intn(4) > 0 {
				continue
			}
			if x = compare(t, x, c); t.Failed() {
				return
			}
		}
	}
}

func randomCommand(r *rand.Rand, x api.Table, hosts, keys int) api.Cmd {
	c := api.Cmd{Op: api.OpRegister + r.Intn(5), Host: fmt.Sprint("h", r.Intn(hosts)), Type: r.Intn(8), Aptpl: r.Intn(4), Ignore: r.Intn(4) == 0}
	if r.Intn(2) == 0 {
		c.Op = api.OpRegister
	}
	c.Key, c.NewKey, c.Other = uint64(r.Intn(keys)), uint64(r.Intn(keys+1)), uint64(r.Intn(keys+1))
	if r.Intn(4) > 0 {
		c.Key = modelOf(x).keys[c.Host]
	}
	return c
}

// P11.1: tables that are good, and ones that are good but for one thing.
func TestGood(t *testing.T) {
	ok := []api.Table{
		{}, {Regs: []api.Reg{}}, {Gen: math.MaxUint32, Aptpl: true},
		table("a1", 0, ""), table("a1 b1 c1", 0, ""), table("c9 a1", 0, ""),
		table("a1", api.WriteAll, ""), table("a1 b2", api.All, ""),
		{Regs: many(api.MaxHosts)}, {Regs: many(api.MaxHosts), Hold: api.Hold{Type: api.Registrants, Host: "host15"}},
		{Regs: many(api.MaxHosts), Hold: api.Hold{Type: api.All}},
		{Regs: []api.Reg{{Host: strings.Repeat("a", api.MaxName), Key: math.MaxUint64}, {Host: "a-.:9", Key: 1 << 63}}},
	}
	for typ := api.WriteExclusive; typ <= api.Registrants; typ++ {
		ok = append(ok, table("a1 b2", typ, "a"), table("a1 b2", typ, "b"), table("a1", typ, "a"))
	}
	bad := []api.Table{
		{Regs: many(api.MaxHosts + 1)}, {Regs: many(1000)}, {Regs: many(api.MaxHosts + 1), Hold: api.Hold{Type: api.All}},
		table("a0", 0, ""), table("a1 b0", 0, ""), table("a0 b1", api.All, ""), table("a0", api.Exclusive, "a"),
		table("a1 a1", 0, ""), table("a1 b1 a2", 0, ""), table("b1 a1 a2", api.WriteAll, ""), table("a1 a2", api.Exclusive, "a"),
		table("A1", 0, ""), table("a1 91", 0, ""), {Regs: []api.Reg{{Key: 1}}}, {Regs: []api.Reg{{Host: "a", Key: 1}, {Key: 2}}},
		{Regs: []api.Reg{{Host: strings.Repeat("a", api.MaxName+1), Key: 1}}}, {Regs: []api.Reg{{Host: "a\xff", Key: 1}}}, {Regs: []api.Reg{{Host: "a ", Key: 1}}},
		table("a1", 0, "a"), table("a1", 0, "b"), table("", 0, "a"), table("", 0, "\xff"),
		table("", api.WriteAll, ""), table("", api.All, ""), table("a1", api.WriteAll, "a"), table("a1", api.All, "a"), table("a1", api.All, "b"), table("", api.All, "a"),
	}
	for typ := api.WriteExclusive; typ <= api.Registrants; typ++ {
		bad = append(bad, table("a1 b2", typ, ""), table("a1 b2", typ, "c"), table("", typ, "a"), table("", typ, ""), table("a1", typ, "A"))
		// A holder in no name's form, registered or not.
		bad = append(bad, api.Table{Regs: []api.Reg{{Key: 1}}, Hold: api.Hold{Type: typ}}, api.Table{Regs: []api.Reg{{Host: "A", Key: 1}}, Hold: api.Hold{Type: typ, Host: "A"}})
	}
	for _, typ := range []int{-1, -6, 7, 8, 255, 256, 257, 1<<32 + 1, 1 << 62, math.MinInt, math.MaxInt} {
		bad = append(bad, table("a1 b2", typ, "a"), table("a1 b2", typ, ""))
	}
	for i, l := range [][]api.Table{bad, ok} {
		for _, x := range l {
			if modelGood(x) != (i == 1) {
				t.Errorf("the model of Good(%#v): %v", x, i == 0)
			}
			if Good(x) != (i == 1) {
				t.Errorf("Good(%#v): %v", x, i == 0)
			}
		}
	}
	for _, x := range smallTables() {
		if !Good(x) {
			t.Errorf("Good(%#v)", x)
		}
	}
}

// P11.1: tables of up to three registrants of all kinds, with holders of all kinds.
func TestGoodAll(t *testing.T) {
	kinds := []api.Reg{{Host: "a", Key: 1}, {Host: "a", Key: 2}, {Host: "b", Key: 1}, {Host: "b"}, {Host: "", Key: 1}, {Host: "A", Key: 3}, {Host: "c", Key: math.MaxUint64}}
	lists := [][]api.Reg{nil}
	for at := 0; at < len(lists) && len(lists[at]) < 3; at++ {
		for _, r := range kinds {
			lists = append(lists, append(slices.Clone(lists[at]), r))
		}
	}
	for _, l := range lists {
		for typ := -1; typ <= 7; typ++ {
			for _, host := range []string{"", "a", "b", "c", "A", "d"} {
				x := api.Table{Regs: l, Hold: api.Hold{Type: typ, Host: host}}
				if got, want := Good(x), modelGood(x); got != want {
					t.Errorf("Good(%#v): %v", x, got)
				}
			}
		}
	}
}

// P11.1: each host's key, and 0 for those that are not registered.
func TestKey(t *testing.T) {
	x := api.Table{Regs: many(api.MaxHosts), Hold: api.Hold{Type: api.Exclusive, Host: "held"}}
	x.Regs[3].Key = math.MaxUint64
	for _, r := range x.Regs {
		if got := Key(x, r.Host); got != r.Key {
			t.Errorf("Key of %q: %d", r.Host, got)
		}
	}
	for _, host := range []string{"", "host", "host16", "held", "HOST1", "host1 ", "\xff", strings.Repeat("a", 1000)} {
		if got := Key(x, host); got != 0 {
			t.Errorf("Key of %q: %d", host, got)
		}
	}
	// What stands in the spare capacity is not registered.
	spare := api.Table{Regs: many(4)[:2]}
	if got := Key(spare, "host2"); got != 0 {
		t.Errorf("Key of one in the spare capacity: %d", got)
	}
	if got := Key(api.Table{}, "a"); got != 0 {
		t.Errorf("Key of an empty table: %d", got)
	}
	// Lists that no table has are asked too.
	long := api.Table{Regs: many(1000)}
	if got := Key(long, "host999"); got != 1000 {
		t.Errorf("Key of the last of many: %d", got)
	}
}

// P11.1: what is left when the power fails.
func TestPower(t *testing.T) {
	empty := api.Table{}
	for _, x := range smallTables() {
		x.Aptpl = true
		if got := Power(x); !sameTable(got, x) {
			t.Errorf("Power(%#v): %#v", x, got)
		}
		x.Aptpl = false
		if got := Power(x); !sameTable(got, empty) {
			t.Errorf("Power(%#v): %#v", x, got)
		}
	}
	full := api.Table{Regs: many(api.MaxHosts), Hold: api.Hold{Type: api.WriteAll}, Gen: math.MaxUint32, Aptpl: true}
	if got := Power(full); !sameTable(got, full) {
		t.Errorf("Power(%#v): %#v", full, got)
	}
	for _, x := range []api.Table{table("a1", 0, "a"), table("a0", 0, ""), table("a1 a1", 0, ""), table("", api.All, ""), table("a1", 7, ""), table("A1", 0, ""), {Regs: many(api.MaxHosts + 1)}} {
		for _, aptpl := range []bool{false, true} {
			x.Aptpl = aptpl
			if got := Power(x); !sameTable(got, empty) {
				t.Errorf("Power(%#v): %#v", x, got)
			}
		}
	}
}

// P11.2: nothing happens in tables that are not good, for requesters that are no names, and with other operations.
func TestWrong(t *testing.T) {
	good := table("a1 b2 c3", api.WriteRegistrants, "a")
	good.Aptpl = true
	command := func(op int, host string) api.Cmd {
		return api.Cmd{Op: op, Host: host, Key: 1, NewKey: 9, Other: 2, Type: api.WriteRegistrants, Ignore: true, Aptpl: api.AptplOff}
	}
	wrong := func(x api.Table, c api.Cmd) {
		t.Helper()
		if got, l, code := Do(x, c); !sameTable(got, x) || len(l) > 0 || code != api.Wrong {
			t.Errorf("Do(%#v, %#v): %#v, %#v, %d", x, c, got, l, code)
		}
	}
	for op := api.OpRegister; op <= api.OpPreempt; op++ {
		if _, _, code := Do(good, command(op, "a")); code != api.Good {
			t.Errorf("operation %d: %d", op, code)
		}
		for _, x := range []api.Table{table("a1 b2", 0, "a"), table("a1 b0", 0, ""), table("a1 b2 a1", 0, ""), table("a1 b2", api.Exclusive, "c"), table("a1", api.All, "a"), table("a1 B2", 0, ""), table("a1", 7, ""), table("", api.WriteAll, ""), {Regs: many(api.MaxHosts + 1)}, {Regs: many(5000)}} {
			wrong(x, command(op, "a"))
		}
		for _, host := range []string{"", "A", "9a", "a b", "a\x00", "\xff", "a_", strings.Repeat("a", api.MaxName+1), strings.Repeat("a", 5000)} {
			wrong(good, command(op, host))
			wrong(api.Table{}, command(op, host))
			// Not even if it stands in the table.
			x := table("a1", api.WriteAll, "")
			x.Regs[0].Host = host
			wrong(x, command(op, host))
		}
	}
	for op := -20; op <= 40; op++ {
		if op < 8 || op > 12 {
			wrong(good, command(op, "a"))
		}
	}
	for n := 8; n <= 12; n++ {
		for _, op := range []int{-n, n + 1<<8, n + 1<<16, n + 1<<32, n - 1<<32, n + math.MinInt, math.MaxInt - n} {
			wrong(good, command(op, "a"))
		}
	}
}

// P11.2: Gen goes on from its greatest value at 0, whatever increments it, and stays where nothing does.
func TestGen(t *testing.T) {
	x := table("a1 b2", api.WriteAll, "")
	x.Gen = math.MaxUint32
	for _, y := range []struct {
		c    api.Cmd
		want uint32
	}{
		{api.Cmd{Op: api.OpRegister, Host: "c", NewKey: 3}, 0},
		{api.Cmd{Op: api.OpRegister, Host: "a", Key: 1, NewKey: 1}, 0},
		{api.Cmd{Op: api.OpRegister, Host: "a", Key: 1}, 0},
		{api.Cmd{Op: api.OpRegister, Host: "c"}, math.MaxUint32},
		{api.Cmd{Op: api.OpRegister, Host: "a", Key: 2, NewKey: 1}, math.MaxUint32},
		{api.Cmd{Op: api.OpReserve, Host: "a", Key: 1, Type: api.WriteAll}, math.MaxUint32},
		{api.Cmd{Op: api.OpRelease, Host: "a", Key: 1, Type: api.WriteAll}, math.MaxUint32},
		{api.Cmd{Op: api.OpClear, Host: "a", Key: 1}, 0},
		{api.Cmd{Op: api.OpPreempt, Host: "a", Key: 1, Type: api.All, Other: 2}, 0},
		{api.Cmd{Op: api.OpPreempt, Host: "a", Key: 1, Type: api.All}, 0},
		{api.Cmd{Op: api.OpPreempt, Host: "a", Key: 1, Type: api.All, Other: 9}, math.MaxUint32},
	} {
		if got, _, _ := Do(x, y.c); got.Gen != y.want {
			t.Errorf("Do(%#v): Gen %d", y.c, got.Gen)
		}
	}
}

// P11.2: a list with no more room takes new keys of those who stand in it, and nobody else.
func TestFull(t *testing.T) {
	x := api.Table{Regs: many(api.MaxHosts), Hold: api.Hold{Type: api.All}, Gen: 3}
	for _, ignore := range []bool{false, true} {
		for _, aptpl := range []int{api.AptplSame, api.AptplOff, api.AptplOn} {
			c := api.Cmd{Op: api.OpRegister, Host: "z", NewKey: 5, Ignore: ignore, Aptpl: aptpl}
			if got, l, code := Do(x, c); !sameTable(got, x) || len(l) > 0 || code != api.Broken {
				t.Errorf("Do(%#v): %#v, %#v, %d", c, got, l, code)
			}
			// Who tells the wrong key conflicts before the list counts.
			c.Key = 1
			if _, _, code := Do(x, c); code != api.Conflict && !ignore {
				t.Errorf("Do(%#v): %d", c, code)
			}
			c.NewKey = 0
			if _, _, code := Do(x, c); code != api.Good && ignore {
				t.Errorf("Do(%#v): %d", c, code)
			}
			for i, r := range x.Regs {
				want := deepCopy(x)
				want.Regs[i].Key, want.Gen, want.Aptpl = 99, 4, aptpl == api.AptplOn
				c := api.Cmd{Op: api.OpRegister, Host: r.Host, Key: r.Key, NewKey: 99, Ignore: ignore, Aptpl: aptpl}
				if got, l, code := Do(x, c); !sameTable(got, want) || len(l) > 0 || code != api.Good {
					t.Errorf("Do(%#v): %#v, %#v, %d", c, got, l, code)
				}
			}
		}
	}
	x.Regs = many(api.MaxHosts - 1)
	want := deepCopy(x)
	want.Regs, want.Gen = append(want.Regs, api.Reg{Host: "z", Key: 5}), 4
	if got, l, code := Do(x, api.Cmd{Op: api.OpRegister, Host: "z", NewKey: 5}); !sameTable(got, want) || len(l) > 0 || code != api.Good {
		t.Errorf("the last one: %#v, %#v, %d", got, l, code)
	}
}

// told is the events in short: the hosts, each with why.
func told(l []api.Event) string {
	s := ""
	for _, e := range l {
		s += fmt.Sprint(e.Host, e.Why, " ")
	}
	return strings.TrimSpace(s)
}

// P11.2: the chapter's cases one by one, written out.
func TestCases(t *testing.T) {
	for _, x := range []struct {
		name   string
		before api.Table
		c      api.Cmd
		after  api.Table // with Gen 7 as before, or one more
		events string
		code   int
	}{
		{"a new host stands last", table("c3 a1", 0, ""), api.Cmd{Op: 8, Host: "b", NewKey: 2}, table("c3 a1 b2", 0, ""), "", api.Good},
		{"a new host tells no key", table("a1", 0, ""), api.Cmd{Op: 8, Host: "b", Key: 1, NewKey: 2}, table("a1", 0, ""), "", api.Conflict},
		{"a new host ignores keys", table("a1", 0, ""), api.Cmd{Op: 8, Host: "b", Key: 9, NewKey: 2, Ignore: true}, table("a1 b2", 0, ""), "", api.Good},
		{"a new key stands in its place", table("a1 b2 c3", 2, "b"), api.Cmd{Op: 8, Host: "b", Key: 2, NewKey: 5}, table("a1 b5 c3", 2, "b"), "", api.Good},
		{"the same key as others", table("a1 b2", 0, ""), api.Cmd{Op: 8, Host: "b", Key: 2, NewKey: 1}, table("a1 b1", 0, ""), "", api.Good},
		{"a wrong key", table("a1 b2", 0, ""), api.Cmd{Op: 8, Host: "b", Key: 1, NewKey: 5}, table("a1 b2", 0, ""), "", api.Conflict},
		{"no key", table("a1 b2", 0, ""), api.Cmd{Op: 8, Host: "b", NewKey: 5}, table("a1 b2", 0, ""), "", api.Conflict},
		{"a wrong key and none new", table("a1 b2", 0, ""), api.Cmd{Op: 8, Host: "b", Key: 1}, table("a1 b2", 0, ""), "", api.Conflict},
		{"away with it, ignoring keys", table("a1 b2", 0, ""), api.Cmd{Op: 8, Host: "b", Key: 9, Ignore: true}, table("a1", 0, ""), "", api.Good},
		{"away with what is not there", table("a1", 0, ""), api.Cmd{Op: 8, Host: "b"}, table("a1", 0, ""), "", api.Good},
		{"the holder goes, type 1", table("a1 b2", 1, "a"), api.Cmd{Op: 8, Host: "a", Key: 1}, table("b2", 0, ""), "", api.Good},
		{"the holder goes, type 2", table("a1 b2", 2, "a"), api.Cmd{Op: 8, Host: "a", Key: 1}, table("b2", 0, ""), "", api.Good},
		{"the holder goes, type 3", table("c3 a1 b2", 3, "a"), api.Cmd{Op: 8, Host: "a", Key: 1}, table("c3 b2", 0, ""), "c3 b3", api.Good},
		{"the holder goes, type 4", table("c3 a1 b2", 4, "a"), api.Cmd{Op: 8, Host: "a", Key: 1}, table("c3 b2", 0, ""), "c3 b3", api.Good},
		{"one of many goes, type 5", table("c3 a1 b2", 5, ""), api.Cmd{Op: 8, Host: "a", Key: 1}, table("c3 b2", 5, ""), "", api.Good},
		{"the last one goes, type 6", table("a1", 6, ""), api.Cmd{Op: 8, Host: "a", Key: 1}, table("", 0, ""), "", api.Good},
		{"another one goes, type 3", table("a1 b2", 3, "a"), api.Cmd{Op: 8, Host: "b", Key: 2}, table("a1", 3, "a"), "", api.Good},

		{"reserve", table("a1 b2", 0, ""), api.Cmd{Op: 9, Host: "b", Key: 2, Type: 3}, table("a1 b2", 3, "b"), "", api.Good},
		{"reserve for all", table("a1 b2", 0, ""), api.Cmd{Op: 9, Host: "b", Key: 2, Type: 5}, table("a1 b2", 5, ""), "", api.Good},
		{"reserve no type", table("a1", 0, ""), api.Cmd{Op: 9, Host: "a", Key: 1, Type: 0}, table("a1", 0, ""), "", api.Wrong},
		{"reserve no type, not registered", table("a1", 0, ""), api.Cmd{Op: 9, Host: "b", Key: 1, Type: 7}, table("a1", 0, ""), "", api.Wrong},
		{"reserve, not registered", table("a1", 0, ""), api.Cmd{Op: 9, Host: "b", Type: 1}, table("a1", 0, ""), "", api.Conflict},
		{"reserve, another's key", table("a1 b2", 0, ""), api.Cmd{Op: 9, Host: "b", Key: 1, Type: 1}, table("a1 b2", 0, ""), "", api.Conflict},
		{"reserve again", table("a1 b2", 3, "b"), api.Cmd{Op: 9, Host: "b", Key: 2, Type: 3}, table("a1 b2", 3, "b"), "", api.Good},
		{"reserve again by another", table("a1 b2", 3, "b"), api.Cmd{Op: 9, Host: "a", Key: 1, Type: 3}, table("a1 b2", 3, "b"), "", api.Conflict},
		{"reserve again with all", table("a1 b2", 6, ""), api.Cmd{Op: 9, Host: "a", Key: 1, Type: 6}, table("a1 b2", 6, ""), "", api.Good},
		{"reserve another type", table("a1 b2", 6, ""), api.Cmd{Op: 9, Host: "a", Key: 1, Type: 5}, table("a1 b2", 6, ""), "", api.Conflict},

		{"release, type 1", table("a1 b2", 1, "a"), api.Cmd{Op: 10, Host: "a", Key: 1, Type: 1}, table("a1 b2", 0, ""), "", api.Good},
		{"release, type 2", table("a1 b2", 2, "a"), api.Cmd{Op: 10, Host: "a", Key: 1, Type: 2}, table("a1 b2", 0, ""), "", api.Good},
		{"release, type 3", table("c3 a1 b2", 3, "a"), api.Cmd{Op: 10, Host: "a", Key: 1, Type: 3}, table("c3 a1 b2", 0, ""), "c3 b3", api.Good},
		{"release, type 4", table("c3 a1 b2", 4, "a"), api.Cmd{Op: 10, Host: "a", Key: 1, Type: 4}, table("c3 a1 b2", 0, ""), "c3 b3", api.Good},
		{"release, type 5", table("c3 a1 b2", 5, ""), api.Cmd{Op: 10, Host: "b", Key: 2, Type: 5}, table("c3 a1 b2", 0, ""), "c3 a3", api.Good},
		{"release, type 6", table("c3 a1 b2", 6, ""), api.Cmd{Op: 10, Host: "c", Key: 3, Type: 6}, table("c3 a1 b2", 0, ""), "a3 b3", api.Good},
		{"release another type", table("a1 b2", 6, ""), api.Cmd{Op: 10, Host: "a", Key: 1, Type: 5}, table("a1 b2", 6, ""), "", api.Wrong},
		{"release no type", table("a1 b2", 1, "a"), api.Cmd{Op: 10, Host: "a", Key: 1}, table("a1 b2", 1, "a"), "", api.Wrong},
		{"release another's", table("a1 b2", 3, "a"), api.Cmd{Op: 10, Host: "b", Key: 2, Type: 3}, table("a1 b2", 3, "a"), "", api.Good},
		{"release nothing", table("a1 b2", 0, ""), api.Cmd{Op: 10, Host: "b", Key: 2, Type: 9}, table("a1 b2", 0, ""), "", api.Good},
		{"release, not registered", table("a1", 3, "a"), api.Cmd{Op: 10, Host: "b", Type: 3}, table("a1", 3, "a"), "", api.Conflict},
		{"release, a wrong key and type", table("a1", 3, "a"), api.Cmd{Op: 10, Host: "a", Key: 2, Type: 4}, table("a1", 3, "a"), "", api.Conflict},

		{"clear", table("c3 a1 b2", 3, "a"), api.Cmd{Op: 11, Host: "a", Key: 1}, table("", 0, ""), "c4 b4", api.Good},
		{"clear without a reservation", table("a1 b2", 0, ""), api.Cmd{Op: 11, Host: "b", Key: 2}, table("", 0, ""), "a4", api.Good},
		{"clear, alone", table("a1", 6, ""), api.Cmd{Op: 11, Host: "a", Key: 1}, table("", 0, ""), "", api.Good},
		{"clear, a wrong key", table("a1 b2", 3, "a"), api.Cmd{Op: 11, Host: "b", Key: 1}, table("a1 b2", 3, "a"), "", api.Conflict},
		{"clear, not registered", table("a1", 3, "a"), api.Cmd{Op: 11, Host: "b"}, table("a1", 3, "a"), "", api.Conflict},

		{"the chapter's example", table("a1 b2", 1, "a"), api.Cmd{Op: 12, Host: "b", Key: 2, Other: 1, Type: 2}, table("b2", 2, "b"), "a2", api.Good},
		{"preempt to all", table("a1 b2", 1, "a"), api.Cmd{Op: 12, Host: "b", Key: 2, Other: 1, Type: 6}, table("b2", 6, ""), "a2", api.Good},
		{"preempt no type", table("a1 b2", 1, "a"), api.Cmd{Op: 12, Host: "b", Key: 2, Other: 1, Type: 7}, table("a1 b2", 1, "a"), "", api.Wrong},
		{"preempt no type, not registered", table("a1", 1, "a"), api.Cmd{Op: 12, Host: "b", Key: 2, Other: 1}, table("a1", 1, "a"), "", api.Wrong},
		{"preempt, not registered", table("a1", 1, "a"), api.Cmd{Op: 12, Host: "b", Other: 1, Type: 1}, table("a1", 1, "a"), "", api.Conflict},
		{"preempt 0, not registered", table("a1", 1, "a"), api.Cmd{Op: 12, Host: "b", Type: 1}, table("a1", 1, "a"), "", api.Conflict},
		{"preempt all with one key", table("a1 b2 c1 d1", 0, ""), api.Cmd{Op: 12, Host: "c", Key: 1, Other: 1, Type: 3}, table("b2 c1", 0, ""), "a2 d2", api.Good},
		{"the holder preempts its own key", table("a1 b1 c3", 3, "a"), api.Cmd{Op: 12, Host: "a", Key: 1, Other: 1, Type: 4}, table("a1 c3", 4, "a"), "b2", api.Good},
		{"the holder preempts its own key alone", table("a1 b2", 3, "a"), api.Cmd{Op: 12, Host: "a", Key: 1, Other: 1, Type: 5}, table("a1 b2", 5, ""), "", api.Good},
		{"preempt a registrant only", table("a1 b2 c3", 3, "a"), api.Cmd{Op: 12, Host: "b", Key: 2, Other: 3, Type: 4}, table("a1 b2", 3, "a"), "c2", api.Good},
		{"preempt nobody's key", table("a1 b2", 3, "a"), api.Cmd{Op: 12, Host: "b", Key: 2, Other: 9, Type: 4}, table("a1 b2", 3, "a"), "", api.Conflict},
		{"preempt the own key, holding nothing", table("a1 b2", 3, "a"), api.Cmd{Op: 12, Host: "b", Key: 2, Other: 2, Type: 4}, table("a1 b2", 3, "a"), "", api.Conflict},
		{"preempt 0 without a reservation", table("a1 b2", 0, ""), api.Cmd{Op: 12, Host: "b", Key: 2, Type: 4}, table("a1 b2", 0, ""), "", api.Wrong},
		{"preempt 0 with a holder", table("a1 b2", 4, "a"), api.Cmd{Op: 12, Host: "b", Key: 2, Type: 4}, table("a1 b2", 4, "a"), "", api.Wrong},
		{"preempt 0 with all", table("c3 a1 b2", 5, ""), api.Cmd{Op: 12, Host: "a", Key: 1, Type: 4}, table("a1", 4, "a"), "c2 b2", api.Good},
		{"preempt 0 with all, to all", table("c3 a1 b2", 5, ""), api.Cmd{Op: 12, Host: "a", Key: 1, Type: 6}, table("a1", 6, ""), "c2 b2", api.Good},
		{"preempt 0 with all, alone", table("a1", 6, ""), api.Cmd{Op: 12, Host: "a", Key: 1, Type: 1}, table("a1", 1, "a"), "", api.Good},
		{"preempt one of all", table("c3 a1 b2", 5, ""), api.Cmd{Op: 12, Host: "a", Key: 1, Other: 3, Type: 4}, table("a1 b2", 5, ""), "c2", api.Good},
		{"preempt nobody of all", table("c3 a1 b2", 5, ""), api.Cmd{Op: 12, Host: "a", Key: 1, Other: 9, Type: 4}, table("c3 a1 b2", 5, ""), "", api.Conflict},
		{"preempt the own key with all", table("c3 a1 b2", 5, ""), api.Cmd{Op: 12, Host: "a", Key: 1, Other: 1, Type: 4}, table("c3 a1 b2", 5, ""), "", api.Conflict},
		{"preempt the own key with all who share it", table("c1 a1 b2", 5, ""), api.Cmd{Op: 12, Host: "a", Key: 1, Other: 1, Type: 4}, table("a1 b2", 5, ""), "c2", api.Good},
	} {
		// The registrants change and Gen with them, or the type was preempted; Gen counts neither reserving nor releasing.
		if moved := !slices.Equal(x.before.Regs, x.after.Regs) || x.c.Op == api.OpPreempt && x.code == api.Good; moved {
			x.after.Gen++
		}
		got, l, code := Do(x.before, x.c)
		if !sameTable(got, x.after) || told(l) != x.events || code != x.code {
			t.Errorf("%s: %#v, %q, %d", x.name, got, told(l), code)
		}
	}
}

// P11.2: Aptpl is set by registering, whatever became of the registration, and by nothing else.
func TestAptpl(t *testing.T) {
	for _, before := range []bool{false, true} {
		x := table("a1 b2", api.Exclusive, "a")
		x.Aptpl = before
		for _, c := range []api.Cmd{
			{Host: "a", Key: 1, NewKey: 9}, {Host: "a", Key: 1}, {Host: "c", NewKey: 9}, {Host: "c"}, {Host: "c", Ignore: true, Key: 5}, // these succeed
			{Host: "a", Key: 2, NewKey: 9}, {Host: "c", Key: 1}, // these don't
		} {
			c.Op = api.OpRegister
			for _, aptpl := range []int{math.MinInt, -2, -1, 0, 1, 2, 3, 4, 1<<8 + 1, 1<<32 + 2, math.MaxInt} {
				c.Aptpl = aptpl
				got, _, code := Do(x, c)
				want := before
				if aptpl == api.AptplOff || aptpl == api.AptplOn {
					want = aptpl == api.AptplOn
				}
				if code != api.Good {
					want = before
				}
				if got.Aptpl != want {
					t.Errorf("Do(%#v, %#v): %v", x, c, got.Aptpl)
				}
			}
		}
		for op := api.OpReserve; op <= api.OpPreempt; op++ {
			for aptpl := range 4 {
				c := api.Cmd{Op: op, Host: "a", Key: 1, Type: api.Exclusive, Other: 2, Aptpl: aptpl}
				if got, _, code := Do(x, c); got.Aptpl != before || code != api.Good {
					t.Errorf("Do(%#v, %#v): %v, %d", x, c, got.Aptpl, code)
				}
			}
		}
	}
}

// P11.2: keys are compared in all their bits.
func TestWideKeys(t *testing.T) {
	const low = uint64(5)
	for bit := range 64 {
		near := low ^ 1<<bit
		x := api.Table{Regs: []api.Reg{{Host: "a", Key: low}, {Host: "b", Key: near}, {Host: "c", Key: 1 << 63}}, Hold: api.Hold{Type: api.Exclusive, Host: "a"}}
		for _, c := range []api.Cmd{
			{Op: api.OpRegister, Host: "a", Key: near, NewKey: 1}, {Op: api.OpRegister, Host: "a", Key: low, NewKey: 1 << bit},
			{Op: api.OpReserve, Host: "a", Key: near, Type: api.Exclusive}, {Op: api.OpRelease, Host: "a", Key: near, Type: api.Exclusive},
			{Op: api.OpClear, Host: "a", Key: near}, {Op: api.OpPreempt, Host: "c", Key: 1 << 63, Other: near, Type: 1},
			{Op: api.OpPreempt, Host: "c", Key: 1 << 63, Other: low, Type: 1}, {Op: api.OpPreempt, Host: "c", Key: 1 << 63, Other: low ^ near, Type: 1},
		} {
			if near != 0 {
				compare(t, x, c)
			}
		}
	}
}

// P11.2: types are compared in all their bits, and are no others than access tells.
func TestTypes(t *testing.T) {
	for n := -3; n <= 9; n++ {
		for _, typ := range []int{n, n + 1<<8, n + 1<<16, n + 1<<32, n + math.MinInt, math.MaxInt - n} {
			for _, op := range []int{api.OpReserve, api.OpPreempt} {
				c := api.Cmd{Op: op, Host: "a", Key: 1, Other: 1, Type: typ}
				x := table("a1 b1", 0, "")
				got := compare(t, x, c)
				if op == api.OpReserve && access.Holds(got, "a") != access.Type(typ) {
					t.Errorf("type %d: %#v", typ, got)
				}
			}
			compare(t, table("a1 b2", api.Registrants, "a"), api.Cmd{Op: api.OpRelease, Host: "a", Key: 1, Type: typ})
		}
	}
}

// P11.2: what a command tells beside what its operation asks for counts for nothing.
func TestBeside(t *testing.T) {
	for _, x := range smallTables() {
		for _, host := range []string{"a", "d"} {
			for op := api.OpRegister; op <= api.OpPreempt; op++ {
				c := api.Cmd{Op: op, Host: host, Key: Key(x, host), NewKey: 3, Other: 1, Type: 1}
				full := c
				full.Lun, full.Lba, full.Blocks, full.Data, full.Fua, full.Ranges = -1, 5, 6, "data", true, []api.Range{{Lba: 1, Blocks: 2}}
				if op != api.OpRegister {
					full.NewKey, full.Ignore, full.Aptpl = 77, true, api.AptplOn
				} else {
					full.Type, full.Other = 9, 8
				}
				if op != api.OpPreempt {
					full.Other = 8
				}
				if op == api.OpClear {
					full.Type = 9
				}
				got, l, code := Do(x, c)
				other, m, n := Do(x, full)
				if !sameTable(got, other) || !slices.Equal(l, m) || code != n {
					t.Errorf("Do(%#v, %#v): %#v, %#v, %d", x, full, other, m, n)
				}
			}
		}
	}
}

// Each call leaves its arguments as they are, with their spare capacity, and shares none of their memory.
func TestMemory(t *testing.T) {
	spare := regs("a1 b2 c3 d4 e5 f6")
	before := slices.Clone(spare)
	for _, h := range []api.Hold{{}, {Type: api.WriteAll}, {Type: api.Registrants, Host: "b"}} {
		x := api.Table{Regs: spare[:3], Hold: h, Aptpl: true}
		y := x
		for _, c := range smallCommands() {
			got, l, _ := Do(x, c)
			again, m, _ := Do(x, c)
			spoil(&got, l)
			want, wantEvents, _ := modelDo(x, c)
			if !sameTable(again, want) || !slices.Equal(m, wantEvents) {
				t.Fatalf("Do(%#v, %#v): %#v, %#v", x, c, again, m)
			}
			if !reflect.DeepEqual(x, y) || !slices.Equal(spare, before) {
				t.Fatalf("Do(.., %#v) has changed the table: %#v, %#v", c, x, spare)
			}
		}
		kept := Power(x)
		spoil(&kept, nil)
		Good(x)
		Key(x, "a")
		if !reflect.DeepEqual(x, y) || !slices.Equal(spare, before) {
			t.Fatalf("%#v: %#v", x, spare)
		}
	}
}

// spoil writes over all that a result has, with its spare capacity.
func spoil(x *api.Table, l []api.Event) {
	clear(x.Regs[:cap(x.Regs)])
	clear(l[:cap(l)])
}

// places are where the texts of tables, events and a command stand.
func places(l []api.Event, hosts []string, tables ...api.Table) []*byte {
	var p []*byte
	for _, e := range l {
		hosts = append(hosts, e.Host)
	}
	for _, x := range tables {
		for _, r := range x.Regs {
			hosts = append(hosts, r.Host)
		}
		hosts = append(hosts, x.Hold.Host)
	}
	for _, s := range hosts {
		if s != "" {
			p = append(p, unsafe.StringData(s))
		}
	}
	return p
}

// No text of a result stands where one of an argument or another one of the result does.
func TestTexts(t *testing.T) {
	for _, x := range []api.Table{table("a1 b2 c3", api.Registrants, "b"), table("a1 b2 c3", api.All, ""), table("a1 b2", 0, "")} {
		x.Aptpl = true
		// All texts are made at run time, for the compiler gives equal constants one place.
		for i := range x.Regs {
			x.Regs[i].Host = strings.Repeat(x.Regs[i].Host, 3)
		}
		x.Hold.Host = strings.Repeat(x.Hold.Host, 3)
		for _, c := range smallCommands() {
			c.Host = strings.Repeat(c.Host, 3)
			got, l, _ := Do(x, c)
			all := append(places(nil, []string{c.Host}, x), places(l, nil, got)...)
			if apart := slices.Compact(slices.SortedFunc(slices.Values(all), byPlace)); len(apart) < len(all) {
				t.Fatalf("Do(%#v, %#v): %#v, %#v share texts", x, c, got, l)
			}
		}
		all := places(nil, nil, x, Power(x))
		if apart := slices.Compact(slices.SortedFunc(slices.Values(all), byPlace)); len(apart) < len(all) {
			t.Fatalf("Power(%#v) shares texts", x)
		}
	}
}

func byPlace(x, y *byte) int {
	return int(uintptr(unsafe.Pointer(x))) - int(uintptr(unsafe.Pointer(y)))
}
