package prout

import (
	"math"
	"math/rand"
	"reflect"
	"slices"
	"strconv"
	"strings"
	"testing"

	"headgate/api"
)

func zeros(n int) string { return strings.Repeat("\x00", n) }

// around are numbers at both sides of each end that an argument has, far from them, and ones that would be within if some of
// their bits were lost.
func around() []int {
	l := []int{math.MinInt, math.MinInt + 1, math.MaxInt, math.MaxInt - 1, math.MinInt32, math.MaxInt32}
	for n := -20; n <= 300; n++ {
		l = append(l, n)
	}
	for _, n := range []int{1 << 8, 1 << 16, 1 << 31, 1 << 32, 1 << 62} {
		for d := -8; d <= 8; d++ {
			l = append(l, n+d, -n+d)
		}
	}
	return l
}

// keys are numbers of which each byte differs, or is at an end.
func keys() []uint64 {
	return []uint64{0, 1, 7, 255, 256, 1 << 31, 1 << 32, 1 << 63, math.MaxUint64, 0x0102030405060708, 0xfedcba9876543210}
}

// equal tells whether two commands are the same; no ranges are none, whether nil or empty.
func equal(a, b api.Cmd) bool {
	if len(a.Ranges) == 0 && len(b.Ranges) == 0 {
		a.Ranges, b.Ranges = nil, nil
	}
	return reflect.DeepEqual(a, b)
}

// holdChange holds Change against the chapter's words, and that the list of its command brings the command again.
func holdChange(t *testing.T, action, typ int, s string) {
	t.Helper()
	want, ok := modelChange(action, typ, s)
	got, err := Change(action, typ, s)
	if !ok {
		if !equal(got, api.Cmd{}) || err != api.ErrParam {
			t.Fatalf("Change(%d, %d, %x): %+v, %v, though there is no command", action, typ, s, got, err)
		}
		return
	}
	if !equal(got, want) || err != api.OK {
		t.Fatalf("Change(%d, %d, %x): %+v, %v, not %+v", action, typ, s, got, err, want)
	}
	holdList(t, got)
	if _, _, err := List(got); err != api.OK {
		t.Fatalf("List(%+v): %v", got, err)
	}
}

// holdList holds List against the chapter's words, and that Change of its result is c.
func holdList(t *testing.T, c api.Cmd) {
	t.Helper()
	wantAction, want, ok := modelBack(c)
	action, s, err := List(c)
	if !ok {
		if action != 0 || s != "" || err != api.ErrParam {
			t.Fatalf("List(%+v): %d, %x, %v, though no change brings it", c, action, s, err)
		}
		return
	}
	if action != wantAction || s != want || err != api.OK {
		t.Fatalf("List(%+v): %d, %x, %v, not %d, %x", c, action, s, err, wantAction, want)
	}
	if back, err := Change(action, c.Type, s); !equal(back, c) || err != api.OK {
		t.Fatalf("Change(%d, %d, %x): %+v, %v, not %+v", action, c.Type, s, back, err, c)
	}
}

// holdTold holds Keys and Holder against the chapter's words.
func holdTold(t *testing.T, gen uint32, h api.Hold, l []api.Reg) {
	t.Helper()
	if got, want := Keys(gen, l), modelKeys(gen, l); got != want {
		t.Fatalf("Keys(%d, %v): %x, not %x", gen, l, got, want)
	}
	if got, want := Holder(gen, h, l), modelHolder(gen, h, l); got != want {
		t.Fatalf("Holder(%d, %v, %v): %x, not %x", gen, h, l, got, want)
	}
}

// The chapter's example.
func TestExample(t *testing.T) {
	if got := Keys(5, []api.Reg{{Host: "a", Key: 7}}); len(got) != 16 || got != "\x00\x00\x00\x05\x00\x00\x00\x08\x00\x00\x00\x00\x00\x00\x00\x07" {
		t.Errorf("%x", got)
	}
}

// P18.1, P18.2, P18.3: each action and its list, written out.
func TestChangesWritten(t *testing.T) {
	const key, second, tail, on = "\x12\x34\x56\x78\x9a\xbc\xde\xf0", "\xfe\xdc\xba\x98\x76\x54\x32\x10", "\x00\x00\x00\x00\x00\x00\x00\x00", "\x00\x00\x00\x00\x01\x00\x00\x00"
	const none = "\x00\x00\x00\x00\x00\x00\x00\x00"
	const k, n = 0x123456789abcdef0, 0xfedcba9876543210
	for _, x := range []struct {
		action, typ int
		s           string
		c           api.Cmd
	}{
		{0, 0, key + second + tail, api.Cmd{Op: api.OpRegister, Key: k, NewKey: n, Aptpl: api.AptplOff}},
		{0, 0, key + second + on, api.Cmd{Op: api.OpRegister, Key: k, NewKey: n, Aptpl: api.AptplOn}},
		{0, 0, none + none + tail, api.Cmd{Op: api.OpRegister, Aptpl: api.AptplOff}},
		{1, 1, key + none + tail, api.Cmd{Op: api.OpReserve, Key: k, Type: api.WriteExclusive}},
		{1, 0, key + none + tail, api.Cmd{Op: api.OpReserve, Key: k}},
		{2, 6, key + none + tail, api.Cmd{Op: api.OpRelease, Key: k, Type: api.All}},
		{2, 8, key + none + tail, api.Cmd{Op: api.OpRelease, Key: k, Type: 8}},
		{3, 0, key + none + tail, api.Cmd{Op: api.OpClear, Key: k}},
		{4, 3, key + second + tail, api.Cmd{Op: api.OpPreempt, Key: k, Other: n, Type: api.WriteRegistrants}},
		{4, -1, none + second + tail, api.Cmd{Op: api.OpPreempt, Other: n, Type: -1}},
		{6, 0, none + second + tail, api.Cmd{Op: api.OpRegister, NewKey: n, Ignore: true, Aptpl: api.AptplOff}},
		{6, 0, none + second + on, api.Cmd{Op: api.OpRegister, NewKey: n, Ignore: true, Aptpl: api.AptplOn}},
		{6, 0, none + none + on, api.Cmd{Op: api.OpRegister, Ignore: true, Aptpl: api.AptplOn}},
	} {
		if c, err := Change(x.action, x.typ, x.s); !equal(c, x.c) || err != api.OK {
			t.Errorf("Change(%d, %d, %x): %+v, %v", x.action, x.typ, x.s, c, err)
		}
		if action, s, err := List(x.c); action != x.action || s != x.s || err != api.OK {
			t.Errorf("List(%+v): %d, %x, %v", x.c, action, s, err)
		}
	}
}

// P18.1: the key of a register whatever the key is does not get into the command.
func TestKeyIgnored(t *testing.T) {
	for _, key := range keys() {
		c, err := Change(6, 0, written(key, 8, true))
		if want := (api.Cmd{Op: api.OpRegister, NewKey: 8, Ignore: true, Aptpl: api.AptplOn}); !equal(c, want) || err != api.OK {
			t.Errorf("%+v, %v", c, err)
		}
		if action, s, err := List(c); action != 6 || s != written(0, 8, true) || err != api.OK {
			t.Errorf("%d, %x, %v", action, s, err)
		}
	}
}

// P18.1: what is no change, each for one reason.
func TestNoChange(t *testing.T) {
	one, two, stored := written(1, 0, false), written(1, 2, false), written(1, 0, true)
	for i, x := range []struct {
		action, typ int
		s           string
	}{
		{5, 0, one}, {7, 0, one}, {-1, 0, one}, {8, 0, one}, {256, 0, one}, {math.MinInt, 0, one}, {math.MaxInt, 0, one},
		{0, 1, one}, {0, -1, one}, {3, 1, one}, {3, -1, one}, {6, 1, one}, {6, -1, one},
		{1, 1, two}, {2, 1, two}, {3, 0, two}, {1, 1, written(0, 1<<63, false)}, {3, 0, written(0, 1, false)},
		{1, 1, stored}, {2, 1, stored}, {3, 0, stored}, {4, 1, stored},
		{0, 0, ""}, {0, 0, one[:23]}, {0, 0, one + "\x00"}, {0, 0, one + one}, {4, 1, one[:20]}, {6, 0, one[:21]},
		{0, 0, zeros(20) + "\x02" + zeros(3)}, {0, 0, zeros(20) + "\x03" + zeros(3)}, {0, 0, zeros(20) + "\x81" + zeros(3)},
		{0, 0, zeros(16) + "\x01" + zeros(7)}, {0, 0, zeros(19) + "\x01" + zeros(4)}, {0, 0, zeros(21) + "\x01" + zeros(2)}, {0, 0, zeros(23) + "\x01"},
	} {
		if c, err := Change(x.action, x.typ, x.s); !equal(c, api.Cmd{}) || err != api.ErrParam {
			t.Errorf("%d: %+v, %v", i, c, err)
		}
		holdChange(t, x.action, x.typ, x.s)
	}
}

// P18.1, P18.3: each action with each type and each kind of list.
func TestAllChanges(t *testing.T) {
	for _, key := range []uint64{0, 7} {
		for _, second := range []uint64{0, 1, 1 << 63} {
			for _, s := range []string{written(key, second, false), written(key, second, true)} {
				for _, n := range around() {
					for small := -2; small <= 9; small++ {
						holdChange(t, n, small, s)
						holdChange(t, small, n, s)
					}
				}
			}
		}
	}
	for action := range 7 {
		for _, key := range keys() {
			for _, second := range keys() {
				for typ := range 8 {
					holdChange(t, action, typ, written(key, second, false))
					holdChange(t, action, typ, written(key, second, true))
				}
			}
		}
	}
}

// P18.1: each byte of lists replaced by all others.
func TestEveryByte(t *testing.T) {
	for action := -1; action <= 8; action++ {
		for _, s := range []string{written(0, 0, false), written(0, 0, true), written(0x0102030405060708, 0, false), written(9, 0xfedcba9876543210, true), written(9, 8, false)} {
			for i := range s {
				b := []byte(s)
				for v := range 256 {
					b[i] = byte(v)
					holdChange(t, action, 0, string(b))
				}
			}
		}
	}
}

// P18.1: lists of each length but the right one.
func TestLengths(t *testing.T) {
	for action := range 7 {
		for _, fill := range []string{"\x00", "\x01", "\xff"} {
			for n := range 300 {
				holdChange(t, action, 0, strings.Repeat(fill, n))
			}
		}
		for n := range 60 {
			holdChange(t, action, 0, (written(7, 0, false) + zeros(40))[:n])
		}
		holdChange(t, action, 0, zeros(24+256))
		holdChange(t, action, 0, zeros(24+1<<16))
	}
}

// results are commands of changes.
func results() []api.Cmd {
	return []api.Cmd{
		{Op: api.OpRegister, Key: 3, NewKey: 4, Aptpl: api.AptplOff},
		{Op: api.OpRegister, NewKey: 4, Aptpl: api.AptplOn},
		{Op: api.OpRegister, NewKey: 4, Ignore: true, Aptpl: api.AptplOff},
		{Op: api.OpRegister, Ignore: true, Aptpl: api.AptplOn},
		{Op: api.OpReserve, Key: 3, Type: 2},
		{Op: api.OpReserve},
		{Op: api.OpRelease, Key: 3, Type: 6},
		{Op: api.OpClear, Key: 3},
		{Op: api.OpPreempt, Key: 3, Other: 4, Type: 1},
		{Op: api.OpPreempt},
	}
}

// P18.2: a command with anything that its change doesn't have, each alone.
func TestNoList(t *testing.T) {
	for i, change := range []func(c *api.Cmd){
		func(c *api.Cmd) { c.Lun = 1 },
		func(c *api.Cmd) { c.Lun = -1 },
		func(c *api.Cmd) { c.Host = "h" },
		func(c *api.Cmd) { c.Host = "\x00" },
		func(c *api.Cmd) { c.Lba = 1 },
		func(c *api.Cmd) { c.Blocks = 1 },
		func(c *api.Cmd) { c.Data = "\x00" },
		func(c *api.Cmd) { c.Data = zeros(24) },
		func(c *api.Cmd) { c.Fua = true },
		func(c *api.Cmd) { c.Ranges = []api.Range{{}} },
		func(c *api.Cmd) { c.Ranges = []api.Range{{Lba: 1, Blocks: 1}} },
		func(c *api.Cmd) { c.Aptpl = 3 },
		func(c *api.Cmd) { c.Aptpl = -1 },
		func(c *api.Cmd) { c.Op += 256 },
		func(c *api.Cmd) { c.Op = -c.Op },
		func(c *api.Cmd) { c.Op = 0 },
	} {
		for _, c := range results() {
			change(&c)
			if action, s, err := List(c); action != 0 || s != "" || err != api.ErrParam {
				t.Errorf("%d: List(%+v): %d, %x, %v", i, c, action, s, err)
			}
			holdList(t, c)
		}
	}
}

// P18.2: no ranges are none, whether nil or empty.
func TestNoRanges(t *testing.T) {
	for _, c := range results() {
		action, s, _ := List(c)
		c.Ranges = make([]api.Range, 0, 3)
		if a, again, err := List(c); a != action || again != s || err != api.OK {
			t.Errorf("List(%+v): %d, %x, %v", c, a, again, err)
		}
	}
}

// P18.2, P18.3: commands with all parts of changes, whether or not they go together.
func TestAllCommands(t *testing.T) {
	three := []uint64{0, 1, 1 << 63}
	for op := -1; op <= 20; op++ {
		for flags := range 2 * 5 {
			for _, typ := range []int{0, 1, 6, 7, -1, math.MaxInt, math.MinInt} {
				for i := range 27 {
					holdList(t, api.Cmd{
						Op: op, Ignore: flags%2 == 1, Aptpl: flags/2 - 1, Type: typ,
						Key: three[i%3], NewKey: three[i/3%3], Other: three[i/9],
					})
				}
			}
		}
	}
	for _, n := range around() {
		for _, c := range results() {
			x := c
			x.Op = n
			holdList(t, x)
			x = c
			x.Type = n
			holdList(t, x)
			x = c
			x.Aptpl = n
			holdList(t, x)
			for _, part := range []*int{&x.Lun, &x.Lba, &x.Blocks} {
				x = c
				*part = n
				holdList(t, x)
			}
		}
	}
}

// P18.1 to P18.3: changes and commands as they come.
func TestRandomChanges(t *testing.T) {
	r := rand.New(rand.NewSource(18))
	key := func() uint64 { return r.Uint64() >> r.Intn(64) * uint64(r.Intn(3)) }
	for range 100000 {
		b := []byte(written(key(), key(), r.Intn(3) == 0))
		if r.Intn(4) == 0 {
			b[r.Intn(len(b))] = byte(r.Intn(256))
		}
		holdChange(t, r.Intn(9)-1, r.Intn(10)*r.Intn(2), string(b))
		holdList(t, api.Cmd{Op: 8 + r.Intn(5), Key: key(), NewKey: key(), Other: key(), Type: r.Intn(8), Ignore: r.Intn(2) == 0, Aptpl: r.Intn(3)})
	}
}

// P18.2: what is told, written out.
func TestToldWritten(t *testing.T) {
	l := []api.Reg{{Host: "", Key: 9}, {Host: "a", Key: 7}, {Host: "b", Key: 0xfedcba9876543210}, {Host: "b", Key: 5}}
	const gen = 0x12345678
	want := "\x12\x34\x56\x78\x00\x00\x00\x20" + zeros(7) + "\x09" + zeros(7) + "\x07" + "\xfe\xdc\xba\x98\x76\x54\x32\x10" + zeros(7) + "\x05"
	if got := Keys(gen, l); got != want {
		t.Errorf("%x", got)
	}
	if got := Keys(gen, nil); got != "\x12\x34\x56\x78"+zeros(4) {
		t.Errorf("%x", got)
	}
	for i, x := range []struct {
		h    api.Hold
		want string
	}{
		{api.Hold{}, zeros(4)},
		{api.Hold{Host: "a"}, zeros(4)},
		{api.Hold{Type: 7, Host: "a"}, zeros(4)},
		{api.Hold{Type: 8, Host: "a"}, zeros(4)},
		{api.Hold{Type: -1, Host: "a"}, zeros(4)},
		{api.Hold{Type: 1, Host: "a"}, "\x00\x00\x00\x10" + zeros(7) + "\x07" + zeros(5) + "\x01" + zeros(2)},
		{api.Hold{Type: 2, Host: "a"}, "\x00\x00\x00\x10" + zeros(7) + "\x07" + zeros(5) + "\x03" + zeros(2)},
		{api.Hold{Type: 3, Host: "a"}, "\x00\x00\x00\x10" + zeros(7) + "\x07" + zeros(5) + "\x05" + zeros(2)},
		{api.Hold{Type: 4, Host: "b"}, "\x00\x00\x00\x10\xfe\xdc\xba\x98\x76\x54\x32\x10" + zeros(5) + "\x06" + zeros(2)},
		{api.Hold{Type: 5}, "\x00\x00\x00\x10" + zeros(8) + zeros(5) + "\x07" + zeros(2)},
		{api.Hold{Type: 6}, "\x00\x00\x00\x10" + zeros(8) + zeros(5) + "\x08" + zeros(2)},
		{api.Hold{Type: 6, Host: "a"}, "\x00\x00\x00\x10" + zeros(7) + "\x07" + zeros(5) + "\x08" + zeros(2)},
		{api.Hold{Type: 1, Host: "c"}, "\x00\x00\x00\x10" + zeros(8) + zeros(5) + "\x01" + zeros(2)},
	} {
		if got := Holder(gen, x.h, l); got != "\x12\x34\x56\x78"+x.want {
			t.Errorf("%d: %x", i, got)
		}
	}
}

// regs are n registrants, each with a key of its own.
func regs(n int) []api.Reg {
	l := make([]api.Reg, n)
	for i := range l {
		l[i] = api.Reg{Host: "host " + strconv.Itoa(i), Key: uint64(i+1) * 0x0102030405060708}
	}
	return l
}

// P18.2: all numbers of registrants up to more than there may be; who holds may be behind them.
func TestHowMany(t *testing.T) {
	for _, n := range []int{0, 1, 2, 3, 14, 15, 16, 17, 18, 31, 32, 33, 255, 256, 257, 272, 1 << 13, 1 << 16} {
		l := regs(n)
		for _, i := range []int{0, 1, 15, 16, n - 1, n} {
			holdTold(t, uint32(n), api.Hold{Type: 2, Host: "host " + strconv.Itoa(i)}, l)
		}
	}
	if got := Keys(1, regs(17)); len(got) != 8+128 || got[4:8] != "\x00\x00\x00\x80" {
		t.Errorf("%x", got)
	}
	if got := Holder(1, api.Hold{Type: 1, Host: "host 16"}, regs(17)); got[8:16] != eb(17*0x0102030405060708, 8) {
		t.Errorf("%x", got)
	}
}

// P18.2: each Gen, type and key at both sides of its ends, and Hosts that are nearly the same.
func TestToldParts(t *testing.T) {
	for _, gen := range []uint32{0, 1, 255, 256, 1<<31 - 1, 1 << 31, math.MaxUint32, 0x12345678} {
		for _, typ := range around() {
			holdTold(t, gen, api.Hold{Type: typ, Host: "b"}, []api.Reg{{Host: "a", Key: 1}, {Host: "b", Key: 2}})
		}
		for _, key := range keys() {
			for typ := range 8 {
				holdTold(t, gen, api.Hold{Type: typ, Host: "a"}, []api.Reg{{Host: "a", Key: key}})
			}
		}
	}
	hosts := []string{"", "a", "A", "b", "ab", "a\x00", "\x00", "a ", "\xff", "\xfe"}
	for _, holder := range hosts {
		for _, one := range hosts {
			for _, two := range hosts {
				holdTold(t, 5, api.Hold{Type: 1, Host: holder}, []api.Reg{{Host: one, Key: 1}, {Host: two, Key: 2}})
			}
		}
	}
}

// P18.2: the registrants stay as they are, with what lies behind them.
func TestOwnMemory(t *testing.T) {
	l := regs(40)
	Keys(1, l[:3])
	Keys(1, l[:30])
	Holder(1, api.Hold{Type: 1, Host: "host 2"}, l[:3])
	if !slices.Equal(l, regs(40)) {
		t.Error(l)
	}
	c := results()[0]
	ranges := make([]api.Range, 3)
	c.Ranges = ranges[:0]
	List(c)
	if !slices.Equal(ranges, make([]api.Range, 3)) {
		t.Error(ranges)
	}
}
