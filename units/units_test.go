package units

import (
	"math"
	"math/rand"
	"slices"
	"strconv"
	"strings"
	"testing"
	"unsafe"

	"headgate/api"
)

// long is a name of n bytes.
func long(n int) string { return strings.Repeat("n", n) }

// wantTaken takes what is pending for host at a unit until nothing is.
func wantTaken(t *testing.T, what string, u *Units, lun int, host string, want ...int) {
	t.Helper()
	if n := u.Wait(lun, host); n != len(want) {
		t.Errorf("%s: %d wait for %q at %d, want %d", what, n, host, lun, len(want))
	}
	for i, w := range want {
		if why, ok := u.Take(lun, host); why != w || !ok {
			t.Errorf("%s: Take(%d, %q): %d, %v, want %d", what, lun, host, why, ok, w)
		}
		if n := u.Wait(lun, host); n != len(want)-i-1 {
			t.Errorf("%s: %d still wait for %q at %d", what, n, host, lun)
		}
	}
	for range 2 {
		if why, ok := u.Take(lun, host); why != 0 || ok {
			t.Errorf("%s: Take(%d, %q) of nothing: %d, %v", what, lun, host, why, ok)
		}
	}
}

func wantAdded(t *testing.T, what string, u *Units, lun int, host string, whys ...int) {
	t.Helper()
	for _, why := range whys {
		if !u.Add(lun, host, why) {
			t.Errorf("%s: Add(%d, %q, %d) is false", what, lun, host, why)
		}
	}
}

func wantHosts(t *testing.T, what string, u *Units, lun int, want ...string) {
	t.Helper()
	if got := u.Hosts(lun); !slices.Equal(got, want) {
		t.Errorf("%s: Hosts(%d): %q, want %q", what, lun, got, want)
	}
}

// The chapter's example.
func TestExample(t *testing.T) {
	u := New()
	wantAdded(t, "example", u, 0, "a", 2, 3)
	if u.Add(0, "a", 3) {
		t.Error("the third Add is true")
	}
	wantTaken(t, "example", u, 0, "a", 2, 3)
}

// P13.1: nothing is pending in a new value, and each value is one of its own.
func TestNew(t *testing.T) {
	u, v := New(), New()
	if u == nil || v == nil || u == v {
		t.Fatal(u, v)
	}
	for lun := -1; lun <= api.MaxLuns; lun++ {
		wantHosts(t, "new", u, lun)
		for _, host := range []string{"a", "b", "", "A"} {
			wantTaken(t, "new", u, lun, host)
		}
	}
	wantAdded(t, "one value", u, 0, "a", 1)
	wantHosts(t, "another value", v, 0)
	wantAdded(t, "another value", v, 0, "a", 1)
	v.Forget("a")
	wantTaken(t, "one value", u, 0, "a", 1)
}

// P13.1: a nil value answers false, 0 and nothing.
func TestNil(t *testing.T) {
	var u *Units
	for _, host := range []string{"a", "", "A"} {
		for _, lun := range []int{0, 7, 8, -1, math.MaxInt, math.MinInt} {
			for why := -1; why <= 6; why++ {
				if u.Add(lun, host, why) {
					t.Errorf("Add(%d, %q, %d) is true", lun, host, why)
				}
			}
			wantTaken(t, "nil", u, lun, host)
			wantHosts(t, "nil", u, lun)
		}
		u.Forget(host)
	}
}

// numbers are some far from the units and the whys, and ones that would be such if some of their bits were lost.
func numbers() []int {
	l := []int{math.MinInt, math.MinInt + 1, math.MinInt + 2, math.MaxInt, math.MinInt32, math.MaxInt32}
	for n := range 9 {
		for _, shift := range []int{4, 8, 16, 31, 32, 48} {
			l = append(l, n+1<<shift, n-1<<shift)
		}
	}
	return l
}

// full are values with nothing, something, and as much as possible pending for the host a at the unit 0.
func full() []*both {
	var l []*both
	for n := range most + 1 {
		b := &both{u: New()}
		for i := range n {
			b.m.add(0, "a", 1+i%4)
			b.u.Add(0, "a", 1+i%4)
		}
		l = append(l, b)
	}
	return l
}

// P13.1: all units, whys and names may be added, and nothing else, which changes nothing.
func TestArguments(t *testing.T) {
	hosts := []string{
		"a", "z", "ab", "a.:-9", "a-", "m0", long(63), long(64), "iqn.2020-01.a",
		"", "A", "aB", "9a", ".a", "-a", ":a", "a b", "a_", "a/", "a\x00", "\x00", "\xff", "a\xff", "ä", "a`", "a{", " a", "a ", long(65), long(66), long(1 << 8), long(1 << 16),
	}
	for _, b := range full() {
		for lun := -3; lun <= 11; lun++ {
			for why := -3; why <= 8; why++ {
				b.do(t, act{'A', lun, "a", why})
			}
		}
		for _, n := range numbers() {
			b.do(t, act{'A', n, "a", 1})
			b.do(t, act{'A', 0, "a", n})
			b.do(t, act{'T', n, "a", 0})
			wantHosts(t, "no unit", b.u, n)
			wantTaken(t, "no unit", b.u, n, "a")
		}
		for _, host := range hosts {
			b.do(t, act{'A', 0, host, 4})
			b.do(t, act{'A', 7, host, 1})
		}
		b.agree(t, hosts)
		b.empty(t)
	}
}

// P13.1: every byte, as the first one of a host and as another one.
func TestBytes(t *testing.T) {
	b := both{u: New()}
	var hosts []string
	for c := range 256 {
		one := string([]byte{byte(c)})
		hosts = append(hosts, one, "a"+one, "a"+one+"a")
	}
	for _, host := range hosts {
		b.do(t, act{'A', 3, host, 2})
	}
	b.agree(t, hosts)
	// 26 letters alone; behind a, and between two, 26 letters, 10 digits and 3 marks.
	if want := 26 + 2*39; len(b.m) != want {
		t.Errorf("%d hosts, want %d", len(b.m), want)
	}
	b.empty(t)
}

// P13.1: only the last one that is pending there is held against why.
func TestSame(t *testing.T) {
	for why := api.WhyPower; why <= api.WhyCleared; why++ {
		other := 1 + why%4
		u := New()
		wantAdded(t, "first", u, 2, "a", why)
		for range 3 {
			if u.Add(2, "a", why) {
				t.Errorf("%d twice", why)
			}
		}
		wantAdded(t, "another unit", u, 3, "a", why)
		wantAdded(t, "another host", u, 2, "b", why)
		wantAdded(t, "not the last", u, 2, "a", other, why)
		if u.Add(2, "a", why) {
			t.Errorf("%d twice behind %d", why, other)
		}
		wantTaken(t, "same", u, 2, "a", why, other, why)
		wantAdded(t, "taken", u, 2, "a", why)
		if u.Add(2, "a", why) {
			t.Errorf("%d twice after all were taken", why)
		}
		u.Forget("a")
		wantAdded(t, "forgotten", u, 2, "a", why)
		wantTaken(t, "forgotten", u, 2, "a", why)
		wantTaken(t, "another unit", u, 3, "a")
		wantTaken(t, "another host", u, 2, "b", why)
	}
}

// P13.1: the first of several that are pending counts for nothing when one is added that is the same.
func TestSameAsOldest(t *testing.T) {
	u := New()
	wantAdded(t, "two", u, 0, "a", 1, 2)
	if why, ok := u.Take(0, "a"); why != 1 || !ok {
		t.Error(why, ok)
	}
	if u.Add(0, "a", 2) {
		t.Error("2 twice, the only one that is pending")
	}
	wantAdded(t, "the one that was taken", u, 0, "a", 1)
	wantTaken(t, "two", u, 0, "a", 2, 1)
}

// P13.1: if eight are pending, the oldest one is removed, at this place alone.
func TestEight(t *testing.T) {
	for n := range 40 {
		u := New()
		var all []int
		for _, beside := range []note{{5, "b", 1}, {4, "a", 2}, {6, "a", 3}} {
			wantAdded(t, "beside", u, beside.lun, beside.host, beside.why)
		}
		for i := range n {
			all = append(all, 1+i*i%3+i%2)
			if i > 0 && all[i] == all[i-1] {
				all[i] = 4
			}
			wantAdded(t, "many", u, 5, "a", all[i])
			if want := min(i+1, 8); u.Wait(5, "a") != want {
				t.Errorf("%d wait, want %d", u.Wait(5, "a"), want)
			}
			if u.Add(5, "a", all[i]) || u.Wait(5, "a") != min(i+1, 8) {
				t.Errorf("the one that is the same as the last, behind %d", i+1)
			}
		}
		wantTaken(t, "many", u, 5, "a", all[max(0, n-8):]...)
		wantTaken(t, "beside", u, 5, "b", 1)
		wantTaken(t, "beside", u, 4, "a", 2)
		wantTaken(t, "beside", u, 6, "a", 3)
	}
}

// P13.1: with eight pending, what may not be added removes nothing.
func TestEightAndWrong(t *testing.T) {
	u := New()
	wantAdded(t, "eight", u, 0, "a", 1, 2, 3, 4, 1, 2, 3, 4)
	for _, x := range []note{{0, "a", 4}, {0, "a", 0}, {0, "a", 5}, {8, "a", 1}, {-1, "a", 1}, {0, "A", 1}, {0, "", 1}} {
		if u.Add(x.lun, x.host, x.why) {
			t.Errorf("Add(%d, %q, %d) is true", x.lun, x.host, x.why)
		}
	}
	wantTaken(t, "eight", u, 0, "a", 1, 2, 3, 4, 1, 2, 3, 4)
}

// P13.2: notifications are taken in the order in which they were added, each once, also if some are added between.
func TestOrder(t *testing.T) {
	u := New()
	wantAdded(t, "order", u, 1, "a", 4, 3, 4)
	for i, want := range []int{4, 3, 4, 1, 2, 1, 2, 1, 2} {
		if i < 6 {
			wantAdded(t, "order", u, 1, "a", 1+i%2)
		}
		if why, ok := u.Take(1, "a"); why != want || !ok {
			t.Errorf("Take %d: %d, %v, want %d", i, why, ok, want)
		}
	}
	wantTaken(t, "order", u, 1, "a")
}

// P13.1: Take and Wait ask about one host at one unit, and Wait changes nothing.
func TestPlaces(t *testing.T) {
	u := New()
	hosts := []string{"a", "aa", "a.a", "b", long(64)}
	for lun := range api.MaxLuns {
		for i, host := range hosts {
			wantAdded(t, "place", u, lun, host, 1+(lun+i)%4, 1+(lun+i+1+lun/4)%4)
		}
	}
	for lun := api.MaxLuns - 1; lun >= 0; lun-- {
		for _, host := range []string{"", "A", "aaa", "a.", "c", "a\x00", long(63), long(65)} {
			wantTaken(t, "no such host", u, lun, host)
		}
		for i, host := range hosts {
			for range 3 {
				if n := u.Wait(lun, host); n != 2 {
					t.Errorf("Wait(%d, %q): %d", lun, host, n)
				}
			}
			wantTaken(t, "place", u, lun, host, 1+(lun+i)%4, 1+(lun+i+1+lun/4)%4)
		}
		wantHosts(t, "all taken", u, lun)
	}
}

// P13.1: Forget removes what is pending for one host, at all units.
func TestForget(t *testing.T) {
	for _, gone := range []string{"a", "b", "ab", "c", "", "A", "a\x00", long(65)} {
		u := New()
		for lun := range api.MaxLuns {
			for _, host := range []string{"a", "b", "ab"} {
				wantAdded(t, "forget", u, lun, host, 3, 1)
			}
		}
		for range 2 {
			u.Forget(gone)
		}
		for lun := range api.MaxLuns {
			var left []string
			for _, host := range []string{"a", "ab", "b"} {
				if host != gone {
					left = append(left, host)
				}
			}
			wantHosts(t, "forget "+gone, u, lun, left...)
			wantTaken(t, "forget "+gone, u, lun, gone)
			for _, host := range left {
				wantTaken(t, "forget "+gone, u, lun, host, 3, 1)
			}
		}
	}
}

// P13.1: a host may be pending at some units alone, be forgotten, and come again.
func TestForgetSome(t *testing.T) {
	for some := range 1 << api.MaxLuns {
		u := New()
		for lun := range api.MaxLuns {
			if some>>lun&1 == 1 {
				wantAdded(t, "some", u, lun, "a", 1, 2, 1, 2, 1, 2, 1, 2)
			}
		}
		u.Forget("a")
		for lun := range api.MaxLuns {
			wantHosts(t, "some", u, lun)
			wantTaken(t, "some", u, lun, "a")
			wantAdded(t, "again", u, lun, "a", 2)
			wantTaken(t, "again", u, lun, "a", 2)
		}
	}
}

// P13.1: Hosts are in the order of their bytes, each once, as long as something is pending for them.
func TestHosts(t *testing.T) {
	sorted := []string{"a", "a-", "a.", "a0", "a9", "a:", "aa", "aaa", "ab", "az", "b", long(3), long(63), long(64), "z", "z-a"}
	r := rand.New(rand.NewSource(13))
	for range 200 {
		u := New()
		for _, i := range r.Perm(len(sorted)) {
			for why := range 1 + r.Intn(10) {
				wantAdded(t, "hosts", u, 6, sorted[i], 1+why%4)
			}
		}
		wantHosts(t, "all", u, 6, sorted...)
		wantHosts(t, "again", u, 6, sorted...)
		wantHosts(t, "another unit", u, 5)
		left := slices.Clone(sorted)
		for len(left) > 0 {
			at := r.Intn(len(left))
			for range u.Wait(6, left[at]) {
				wantHosts(t, "some", u, 6, left...)
				u.Take(6, left[at])
			}
			left = slices.Delete(left, at, at+1)
		}
		wantHosts(t, "none", u, 6)
	}
}

// P13.1: there is no bound on how many hosts something is pending for, and each unit has its own.
func TestManyHosts(t *testing.T) {
	u := New()
	var want [api.MaxLuns][]string
	for i := range 4000 {
		host := "h" + strconv.Itoa(i*7919%4000)
		wantAdded(t, "many", u, i%api.MaxLuns, host, 1+i%4)
		want[i%api.MaxLuns] = append(want[i%api.MaxLuns], host)
	}
	for lun := range api.MaxLuns {
		slices.Sort(want[lun])
		wantHosts(t, "many", u, lun, want[lun]...)
	}
}

// P13.1 and P13.2: all short lives of two hosts at two units, with whys that are the same and others.
func TestShortLives(t *testing.T) {
	acts := []act{
		{'A', 0, "a", 1}, {'A', 0, "a", 2}, {'A', 0, "b", 1}, {'A', 7, "a", 1},
		{'T', 0, "a", 0}, {'T', 7, "a", 0}, {'T', 0, "b", 0}, {'F', 0, "a", 0},
	}
	for n := range 1 << 18 { // six acts
		b := both{u: New()}
		for i := range 6 {
			b.do(t, acts[n>>(3*i)&7])
		}
		for _, lun := range []int{0, 7} {
			if !slices.Equal(b.u.Hosts(lun), b.m.hosts(lun)) {
				t.Errorf("Hosts(%d): %q, want %q", lun, b.u.Hosts(lun), b.m.hosts(lun))
			}
			for _, host := range []string{"a", "b"} {
				if b.u.Wait(lun, host) != len(b.m.at(lun, host)) {
					t.Errorf("Wait(%d, %q): %d, want %d", lun, host, b.u.Wait(lun, host), len(b.m.at(lun, host)))
				}
			}
		}
		if t.Failed() {
			t.Fatalf("life %o", n)
		}
	}
}

// P13.1 and P13.2: long lives, in which places are filled beyond eight and emptied.
func TestLongLives(t *testing.T) {
	hosts := []string{"a", "ab", "b", "c.d:1", long(64), "A", ""}
	for seed := range int64(40) {
		r := rand.New(rand.NewSource(seed))
		b := both{u: New()}
		kinds := []string{"AAAAAAAAAAAT", "AAAT", "AAT", "AT", "ATT", "AAAAAAAAAAAAAAAAAAAAAAAAAAAAAF"}[seed%6]
		most := 0
		for i := range 3000 {
			a := act{kinds[r.Intn(len(kinds))], r.Intn(10) - 1, hosts[r.Intn(len(hosts))], r.Intn(6)}
			if seed%2 == 0 {
				a.lun %= 2
			}
			b.do(t, a)
			most = max(most, b.u.Wait(a.lun, a.host))
			if i%100 == 0 {
				b.agree(t, hosts)
			}
		}
		if seed%6 < 2 && most != 8 {
			t.Errorf("seed %d: at most %d waited", seed, most)
		}
		b.empty(t)
	}
}

// What is kept is what is pending, and no more.
func TestKept(t *testing.T) {
	u := New()
	for i := range 1000 {
		host := "h" + strconv.Itoa(i)
		for n := range 20 {
			wantAdded(t, "kept", u, i%8, host, 1+n%4)
		}
		for n := range u.Wait(i%8, host) {
			if i%2 == 0 || n < 3 {
				u.Take(i%8, host)
			}
		}
		u.Take(i%8, host)
		u.Wait(3, host)
		u.Add(0, host, 9)
		if i%2 == 1 {
			u.Forget(host)
		}
		if len(u.pending) != 0 {
			t.Fatalf("%v", u.pending)
		}
	}
	for n := range 1000 {
		u.Add(0, "a", 1+n%4)
		u.Take(0, "a"[:n%2])
	}
	for at, l := range u.pending {
		if len(l) > 8 || cap(l) > 16 {
			t.Errorf("%v: %d, %d", at, len(l), cap(l))
		}
	}
}

// lent is a text that stands in b, so that it changes with b.
func lent(b []byte) string { return unsafe.String(&b[0], len(b)) }

// A host that is handed in isn't kept, neither by the call that makes it known nor by a later one.
func TestArgumentsNotKept(t *testing.T) {
	u := New()
	call := func(f func(host string)) {
		b := []byte("host")
		f(lent(b))
		if string(b) != "host" {
			t.Errorf("the argument is %q now", b)
		}
		copy(b, "gone")
	}
	for _, f := range []func(string){
		func(host string) { u.Add(0, host, 1) }, func(host string) { u.Add(0, host, 2) }, func(host string) { u.Add(0, host, 2) }, func(host string) { u.Add(0, host, 3) },
		func(host string) { u.Take(0, host) }, func(host string) { u.Wait(0, host) },
	} {
		call(f)
		wantHosts(t, "not kept", u, 0, "host")
		if u.Wait(0, "host") == 0 || u.Wait(0, "gone") != 0 {
			t.Error("not kept")
		}
	}
	wantTaken(t, "not kept", u, 0, "host", 2, 3)
	call(func(host string) { u.Add(1, host, 1) })
	call(u.Forget)
	wantHosts(t, "forgotten", u, 1)
}

// Each list of hosts, and each text in it, stands in memory of its own.
func TestResults(t *testing.T) {
	u := New()
	for _, host := range []string{"a", "b", "c"} {
		wantAdded(t, "results", u, 0, host, 1)
		wantAdded(t, "results", u, 1, host, 1)
	}
	x, y, z := u.Hosts(0), u.Hosts(0), u.Hosts(1)
	var places []*byte
	for _, l := range [][]string{x, y, z} {
		for _, host := range l {
			places = append(places, unsafe.StringData(host))
		}
	}
	for at := range u.pending {
		places = append(places, unsafe.StringData(at.host))
	}
	for i, p := range places {
		if slices.Index(places, p) < i {
			t.Errorf("text %d stands where another one does", i)
		}
	}
	clear(x[:cap(x)])
	clear(z[:cap(z)])
	if !slices.Equal(y, []string{"a", "b", "c"}) {
		t.Errorf("%q", y)
	}
	wantHosts(t, "results", u, 0, "a", "b", "c")
}
