package scsi

import (
	"fmt"
	"math"
	"math/rand"
	"slices"
	"strings"
	"testing"

	"headgate/api"
	"headgate/cache"
	"headgate/cdb"
	"headgate/dev"
	"headgate/exec"
	"headgate/inquiry"
	"headgate/store"
)

// noise is n bytes of all values that show the number they were made from.
func noise(seed, n int) string {
	b := make([]byte, n)
	v := uint64(seed)*2654435761 + 1
	for i := range b {
		v = v*6364136223846793005 + 1442695040888963407
		b[i] = byte(v >> 56)
	}
	return string(b)
}

func blocks(seed, n int) string { return noise(seed, n*512) }

func zeros(n int) string { return strings.Repeat("\x00", n) }

func idOf(lun int) string { return fmt.Sprintf("unit %11d", lun) }

// made is an executor of units with so many blocks, on a device of its own.
func made(t *testing.T, most int, sizes ...int) (*exec.Exec, *dev.Dev) {
	t.Helper()
	n := 64 + 512
	var l []api.Unit
	for lun, size := range sizes {
		n += 2 * size
		l = append(l, api.Unit{Blocks: size, Id: idOf(lun)})
	}
	d, _ := dev.New(n)
	s, err := store.Format(d, l)
	if err != api.OK {
		t.Fatal("Format", err)
	}
	c, _ := cache.New(s, most)
	x, err := exec.New(c)
	if err != api.OK {
		t.Fatal("exec.New", err)
	}
	return x, d
}

// plain is made with a cache of full size.
func plain(t *testing.T, sizes ...int) *exec.Exec {
	t.Helper()
	x, _ := made(t, 256, sizes...)
	return x
}

func showReply(r api.Reply) string {
	return fmt.Sprintf("{status %d, sense %+v, %d bytes: %x}", r.Status, r.Sense, len(r.Data), cut(r.Data, 40))
}

// want holds a reply against the one that is meant.
func want(t *testing.T, what any, got, meant api.Reply) {
	t.Helper()
	if got != meant {
		t.Errorf("%v: %s, want %s", what, showReply(got), showReply(meant))
	}
}

// good is the reply of success with these data.
func good(data string) api.Reply { return api.Reply{Sense: api.Sense{At: -1}, Data: data} }

// check is a reply with status 2 and these numbers.
func check(key, asc, ascq int) api.Reply {
	return api.Reply{Status: 2, Sense: api.Sense{Key: key, Asc: asc, Ascq: ascq, At: -1}}
}

var (
	wrong    = check(5, 36, 0)
	noUnit   = check(5, 37, 0)
	beyond   = check(5, 33, 0)
	broken   = check(3, 12, 0)
	conflict = api.Reply{Status: 24, Sense: api.Sense{At: -1}}
)

func differ(at int) api.Reply {
	return api.Reply{Status: 2, Sense: api.Sense{Key: 14, Asc: 29, At: at}}
}

// Some blocks, by their bytes.
func read10(lba, n int) string {
	return "\x28\x00" + eb(uint64(lba), 4) + "\x00" + eb(uint64(n), 2) + "\x00"
}

func read16(lba, n int) string {
	return "\x88\x00" + eb(uint64(lba), 8) + eb(uint64(n), 4) + "\x00\x00"
}

func write10(lba, n int) string {
	return "\x2a\x00" + eb(uint64(lba), 4) + "\x00" + eb(uint64(n), 2) + "\x00"
}

func write16(lba, n int) string {
	return "\x8a\x00" + eb(uint64(lba), 8) + eb(uint64(n), 4) + "\x00\x00"
}

func compare16(lba, n int) string {
	return "\x89\x00" + eb(uint64(lba), 8) + "\x00\x00\x00" + eb(uint64(n), 1) + "\x00\x00"
}

func zero16(lba, n int) string {
	return "\x93\x01" + eb(uint64(lba), 8) + eb(uint64(n), 4) + "\x00\x00"
}

func unmap10(n int) string { return "\x42" + zeros(6) + eb(uint64(n), 2) + "\x00" }

func query10(action, n int) string {
	return "\x5e" + eb(uint64(action), 1) + zeros(5) + eb(uint64(n), 2) + "\x00"
}

func change10(action, number int) string {
	return "\x5f" + eb(uint64(action), 1) + eb(uint64(number), 1) + "\x00\x00\x00\x00\x00\x18\x00"
}

// page6 is the block of an inquiry; the page is none if it is negative.
func page6(page, n int) string {
	if page < 0 {
		return "\x12\x00\x00" + eb(uint64(n), 2) + "\x00"
	}
	return "\x12\x01" + eb(uint64(page), 1) + eb(uint64(n), 2) + "\x00"
}

func list12(n int) string { return "\xa0" + zeros(5) + eb(uint64(n), 4) + zeros(2) }

const (
	ready6     = "\x00\x00\x00\x00\x00\x00"
	capacity10 = "\x25\x00\x00\x00\x00\x00\x00\x00\x00\x00"
	flush10    = "\x35\x00\x00\x00\x00\x00\x00\x00\x00\x00"
)

// keysList is the list of a change.
func keysList(key, second uint64, aptpl bool) string {
	if aptpl {
		return eb(key, 8) + eb(second, 8) + "\x00\x00\x00\x00\x01\x00\x00\x00"
	}
	return eb(key, 8) + eb(second, 8) + zeros(8)
}

// ranges is the list of an unmap.
func ranges(l ...api.Range) string {
	s := eb(uint64(6+16*len(l)), 2) + eb(uint64(16*len(l)), 2) + zeros(4)
	for _, r := range l {
		s += eb(uint64(r.Lba), 8) + eb(uint64(r.Blocks), 4) + zeros(4)
	}
	return s
}

// register registers a host by a block.
func register(t *testing.T, x *exec.Exec, lun int, host string, key uint64) {
	t.Helper()
	want(t, "register "+host, Do(x, host, lun, change10(0, 0), keysList(0, key, false)), good(""))
}

// samples are a block with each first byte and each action, with data that it takes, on a unit of at least four blocks.
func samples() []struct{ s, data string } {
	l := []struct{ s, data string }{
		{ready6, ""}, {capacity10, ""}, {read10(1, 2), ""}, {read16(1, 2), ""},
		{write10(1, 2), blocks(1, 2)}, {write16(1, 2), blocks(2, 2)}, {flush10, ""},
		{unmap10(24), ranges(api.Range{Lba: 1, Blocks: 1})}, {compare16(3, 1), zeros(512) + blocks(3, 1)}, {zero16(0, 4), ""},
		{query10(0, 100), ""}, {query10(1, 100), ""},
	}
	for _, action := range []int{0, 1, 2, 3, 4, 6} {
		number := 0
		if action == 1 || action == 2 || action == 4 {
			number = 1
		}
		l = append(l, struct{ s, data string }{change10(action, number), keysList(1, 0, false)})
	}
	return l
}

// Example 1.
func TestExample(t *testing.T) {
	x := plain(t, 4)
	r := Do(x, "h", 0, write10(0, 1), "")
	if r.Status != 2 || r.Sense != (api.Sense{Key: 5, Asc: 36, Ascq: 0, At: -1}) || r.Data != "" {
		t.Error(showReply(r))
	}
}

// P19.1: each command, with numbers of which each byte differs, or is at an end.
func TestNeedWritten(t *testing.T) {
	const big = 1<<31 - 1
	for _, z := range []struct {
		s       string
		out, in int
	}{
		{ready6, 0, 0}, {flush10, 0, 0}, {capacity10, 0, 8},
		{page6(-1, 0), 0, 0}, {page6(-1, 36), 0, 36}, {page6(131, 0x1234), 0, 0x1234}, {page6(0, 65535), 0, 65535},
		{list12(0), 0, 0}, {list12(15), 0, 15}, {list12(0x12345678), 0, 0x12345678}, {list12(math.MaxUint32), 0, math.MaxUint32},
		{read10(9, 0), 0, 0}, {read10(9, 1), 0, 512}, {read10(0, 65535), 0, 512 * 65535},
		{read16(9, 0), 0, 0}, {read16(9, 65), 0, 512 * 65}, {read16(0, big), 0, 512 * big},
		{write10(9, 0), 0, 0}, {write10(9, 1), 512, 0}, {write10(0, 65535), 512 * 65535, 0},
		{write16(9, 0), 0, 0}, {write16(9, 65), 512 * 65, 0}, {write16(0, big), 512 * big, 0},
		{compare16(9, 0), 0, 0}, {compare16(9, 1), 1024, 0}, {compare16(9, 32), 32768, 0}, {compare16(9, 255), 1024 * 255, 0},
		{zero16(9, 0), 0, 0}, {zero16(0, big), 0, 0},
		{unmap10(0), 0, 0}, {unmap10(24), 24, 0}, {unmap10(65535), 65535, 0},
		{query10(0, 0), 0, 0}, {query10(0, 8), 0, 8}, {query10(1, 65535), 0, 65535},
		{change10(0, 0), 24, 0}, {change10(1, 1), 24, 0}, {change10(2, 8), 24, 0}, {change10(3, 0), 24, 0}, {change10(4, 3), 24, 0}, {change10(6, 0), 24, 0},
	} {
		if out, in := Need(z.s); out != z.out || in != z.in {
			t.Errorf("Need(%x): %d, %d, want %d, %d", z.s, out, in, z.out, z.in)
		}
	}
}

// noBlocks are texts that are no blocks, though some nearly are.
func noBlocks() []string {
	return []string{
		"", "\x00", "\x01", "x", "\x28", zeros(5), zeros(7), "\x01" + zeros(5), "\xff" + zeros(15),
		write10(0, 1)[:9], write10(0, 1) + "\x00", write10(0, 1)[:9] + "\x01", read16(0, 1)[:15], read16(0, 1)[:15] + "\x01",
		read16(1<<31, 1), read16(0, 1<<31), write16(1<<31, 1), write16(0, 1<<31), compare16(1<<31, 1), zero16(1<<31, 1), zero16(0, 1<<31),
		"\x93\x00" + zero16(0, 1)[2:], query10(2, 8), query10(31, 8), change10(5, 0), change10(7, 0), change10(1, 0), change10(2, 2), change10(4, 9),
		"\x5f\x00\x00\x00\x00\x00\x00\x00\x17\x00", "\x5f\x00\x10\x00\x00\x00\x00\x00\x18\x00",
		list12(16)[:11], list12(16)[:11] + "\x01", page6(0, 9)[:5] + "\x01",
	}
}

// P19.1: what is no block needs nothing.
func TestNeedNothing(t *testing.T) {
	for _, s := range noBlocks() {
		if out, in := Need(s); out != 0 || in != 0 {
			t.Errorf("Need(%x): %d, %d", s, out, in)
		}
	}
}

// P19.1: all first bytes with any others, and any text of each length.
func TestNeedAny(t *testing.T) {
	r := rand.New(rand.NewSource(19))
	for range 200 {
		for first := range 256 {
			for _, n := range []int{6, 10, 12, 16, r.Intn(20)} {
				b := []byte(noise(r.Int(), n))
				if r.Intn(2) == 0 {
					clear(b[n/2:])
				}
				if n > 0 {
					b[0], b[n-1] = byte(first), 0
				}
				out, in := Need(string(b))
				if wantOut, wantIn := modelNeed(string(b)); out != wantOut || in != wantIn {
					t.Fatalf("Need(%x): %d, %d, want %d, %d", b, out, in, wantOut, wantIn)
				}
			}
		}
	}
}

// P19.2: Wrong, ahead of all else: no executor, no block, other data than the block takes. Nothing changes, and what is
// pending stays so.
func TestWrongFirst(t *testing.T) {
	x := plain(t, 4)
	x.Units().Add(0, "h", api.WhyCleared)
	for _, lun := range []int{0, 1, -1} {
		for _, s := range noBlocks() {
			for _, data := range []string{"", "x", zeros(24), zeros(512)} {
				want(t, s, Do(x, "h", lun, s, data), wrong)
				want(t, s, Do(nil, "h", lun, s, data), wrong)
			}
		}
		reporting := []struct{ s, data string }{{page6(-1, 36), ""}, {page6(0, 36), ""}, {list12(16), ""}, {list12(99), ""}}
		for _, z := range append(samples(), reporting...) {
			want(t, "no executor", Do(nil, "h", lun, z.s, z.data), wrong)
			for _, data := range []string{z.data + "x", z.data + zeros(512), cut(z.data, max(len(z.data)-1, 0)), z.data + z.data + "x"} {
				if data != z.data {
					want(t, fmt.Sprintf("%x with %d bytes", z.s, len(data)), Do(x, "h", lun, z.s, data), wrong)
				}
			}
			if z.data != "" {
				want(t, "no data", Do(x, "h", lun, z.s, ""), wrong)
			}
		}
	}
	if x.Units().Wait(0, "h") != 1 || x.Cache().Dirty() != 0 || len(x.Table(0).Regs) != 0 {
		t.Error("something has changed")
	}
}

// P19.2: the pages of an inquiry, cut to what is wanted.
func TestInquiry(t *testing.T) {
	x := plain(t, 4, 9)
	for lun := -2; lun <= 3; lun++ {
		there := lun == 0 || lun == 1
		var u api.Unit
		if there {
			u = api.Unit{Blocks: 4 + 5*lun, Id: idOf(lun)}
		}
		for page := -1; page < 256; page++ {
			asked := 0
			if page >= 0 {
				asked = 256 + page
			}
			text, err := inquiry.Page(u, there, asked)
			for _, n := range []int{0, 1, 5, 7, 24, 35, 36, 37, 63, 64, 65, 65535} {
				meant := good(cut(text, n))
				if err != api.OK {
					meant = wrong
				}
				want(t, fmt.Sprint("page ", page, " of ", lun), Do(x, "h", lun, page6(page, n), ""), meant)
			}
		}
	}
	want(t, "standard", Do(x, "h", 1, page6(-1, 8), ""), good("\x00\x00\x06\x02\x1f\x00\x00\x00"))
	want(t, "no unit", Do(x, "h", 2, page6(-1, 3), ""), good("\x7f\x00\x06"))
	want(t, "Id", Do(x, "h", 1, page6(131, 99), ""), good("\x00\x83\x00\x14\x01\x01\x00\x10"+idOf(1)))
}

// P19.2: the list of units, of at least 16 bytes.
func TestList(t *testing.T) {
	for units := 1; units <= api.MaxLuns; units++ {
		x := plain(t, slices.Repeat([]int{1}, units)...)
		text := eb(uint64(8*units), 4) + zeros(4)
		for n := range units {
			text += "\x00" + eb(uint64(n), 1) + zeros(6)
		}
		for _, lun := range []int{0, units - 1, units, -1, 300} {
			for _, n := range []int{0, 1, 8, 14, 15} {
				want(t, n, Do(x, "h", lun, list12(n), ""), wrong)
			}
			for _, n := range []int{16, 17, 31, 8 + 8*units - 1, 8 + 8*units, 8 + 8*units + 1, 1 << 31, math.MaxUint32} {
				if n >= 16 {
					want(t, n, Do(x, "h", lun, list12(n), ""), good(cut(text, n)))
				}
			}
		}
	}
}

// P19.2: inquiries and lists take no heed of who asks, and of what is pending or reserved.
func TestReportsTellNothing(t *testing.T) {
	x := plain(t, 4)
	register(t, x, 0, "a", 1)
	want(t, "reserve", Do(x, "a", 0, change10(1, 3), keysList(1, 0, false)), good(""))
	x.Units().Add(0, "h", api.WhyPreempted)
	for _, host := range []string{"h", "b", "", "A", "\x00"} {
		if r := Do(x, host, 0, page6(-1, 36), ""); r.Status != 0 || len(r.Data) != 36 {
			t.Error(showReply(r))
		}
		want(t, "page", Do(x, host, 0, page6(1, 36), ""), wrong)
		want(t, "list", Do(x, host, 0, list12(16), ""), good("\x00\x00\x00\x08"+zeros(12)))
		want(t, "list", Do(x, host, 0, list12(15), ""), wrong)
	}
	if x.Units().Wait(0, "h") != 1 {
		t.Error("what is pending was told")
	}
}

// P19.2: of a unit that is not there nothing is told, whatever is pending for it.
func TestNoUnit(t *testing.T) {
	x := plain(t, 4, 4)
	for lun := range api.MaxLuns {
		x.Units().Add(lun, "h", api.WhyPower)
	}
	for _, lun := range []int{2, 3, 7, 8, -1, 255, 256, math.MinInt, math.MaxInt} {
		for _, z := range samples() {
			want(t, fmt.Sprintf("%x of %d", z.s, lun), Do(x, "h", lun, z.s, z.data), noUnit)
		}
		want(t, "no list", Do(x, "h", lun, unmap10(24), zeros(24)), noUnit)
		want(t, "no list", Do(x, "h", lun, change10(3, 0), noise(1, 24)), noUnit)
	}
	for lun := range api.MaxLuns {
		if x.Units().Wait(lun, "h") != 1 {
			t.Error("told", lun)
		}
	}
}

// P19.2: what is pending is told first, in order, each once, and the command has no effect.
func TestTold(t *testing.T) {
	whys := []int{api.WhyReleased, api.WhyPower, api.WhyCleared, api.WhyPreempted}
	told := []api.Reply{check(6, 42, 4), check(6, 41, 0), check(6, 42, 3), check(6, 42, 5)}
	for _, z := range append(samples(), []struct{ s, data string }{{unmap10(24), zeros(24)}, {change10(3, 0), noise(1, 24)}, {read10(9, 9), ""}, {write16(0, 65), blocks(1, 65)}}...) {
		x, y := plain(t, 4, 4), plain(t, 4, 4)
		for _, why := range whys {
			x.Units().Add(1, "h", why)
		}
		for i := range whys {
			want(t, "another unit", Do(x, "h", 0, ready6, ""), good(""))
			want(t, "another host", Do(x, "g", 1, ready6, ""), good(""))
			want(t, fmt.Sprintf("%x", z.s), Do(x, "h", 1, z.s, z.data), told[i])
		}
		if x.Cache().Dirty() != 0 || len(x.Table(1).Regs) != 0 {
			t.Errorf("%x was executed", z.s)
		}
		want(t, fmt.Sprintf("%x", z.s), Do(x, "h", 1, z.s, z.data), modelDo(y, "h", 1, z.s, z.data))
	}
}

// P19.2: what a change of one host does to another one is told (F7).
func TestPreempted(t *testing.T) {
	x := plain(t, 4)
	register(t, x, 0, "a", 1)
	register(t, x, 0, "b", 2)
	want(t, "reserve", Do(x, "a", 0, change10(1, 1), keysList(1, 0, false)), good(""))
	want(t, "write", Do(x, "b", 0, write10(0, 1), blocks(1, 1)), conflict)
	want(t, "preempt", Do(x, "b", 0, change10(4, 3), keysList(2, 1, false)), good(""))
	want(t, "told", Do(x, "a", 0, read10(0, 1), ""), check(6, 42, 5))
	want(t, "read", Do(x, "a", 0, read10(0, 1), ""), conflict)
	want(t, "holder", Do(x, "a", 0, query10(1, 99), ""), good("\x00\x00\x00\x03\x00\x00\x00\x10"+eb(2, 8)+zeros(5)+"\x03\x00\x00"))
}

// P19.2: each command, on one unit after another, with its effect.
func TestDoWritten(t *testing.T) {
	x := plain(t, 20, 70)
	one, two := blocks(1, 1), blocks(2, 1)
	for i, z := range []struct {
		lun     int
		s, data string
		meant   api.Reply
	}{
		{0, ready6, "", good("")},
		{0, capacity10, "", good("\x00\x00\x00\x13\x00\x00\x02\x00")},
		{1, capacity10, "", good("\x00\x00\x00\x45\x00\x00\x02\x00")},
		{0, read10(0, 2), "", good(zeros(1024))},
		{0, write10(1, 2), one + two, good("")},
		{0, read10(0, 3), "", good(zeros(512) + one + two)},
		{0, read16(2, 1), "", good(two)},
		{1, read16(1, 2), "", good(zeros(1024))},
		{0, write16(18, 2), two + one, good("")},
		{0, read16(18, 2), "", good(two + one)},
		{0, read16(20, 0), "", good("")},
		{0, read10(19, 2), "", beyond},
		{0, read16(1<<31-1, 1<<6), "", beyond},
		{0, write16(19, 2), one + two, beyond},
		{0, write10(20, 0), "", good("")},
		{0, write10(21, 0), "", beyond},
		{1, write16(6, 64), blocks(6, 64), good("")},
		{1, read10(6, 64), "", good(blocks(6, 64))},
		{1, read16(0, 65), "", wrong},
		{1, write16(0, 65), blocks(6, 65), wrong},
		{0, flush10, "", good("")},
		{0, unmap10(40), ranges(api.Range{Lba: 1, Blocks: 1}, api.Range{Lba: 19, Blocks: 1}), good("")},
		{0, read10(1, 1), "", good(zeros(512))},
		{0, read10(18, 2), "", good(two + zeros(512))},
		{0, unmap10(8), ranges(), good("")},
		{0, unmap10(24), ranges(api.Range{Lba: 20, Blocks: 1}), beyond},
		{0, unmap10(0), "", wrong},
		{0, unmap10(24), noise(1, 24), wrong},
		{0, unmap10(40), ranges(api.Range{}) + zeros(16), wrong},
		{0, unmap10(280), ranges(make([]api.Range, 17)...), wrong},
		{0, compare16(2, 1), two + one, good("")},
		{0, read10(2, 1), "", good(one)},
		{0, compare16(2, 1), two + zeros(512), differ(firstDifference(one, two))},
		{0, compare16(1, 2), zeros(512) + one[:511] + "x" + two + two, differ(1023)},
		{0, read10(1, 2), "", good(zeros(512) + one)},
		{0, compare16(19, 2), zeros(2048), beyond},
		{0, compare16(0, 33), zeros(33 * 1024), wrong},
		{1, compare16(0, 32), zeros(32 * 1024), differ(6 * 512)},
		{0, compare16(5, 0), "", good("")},
		{0, zero16(0, 20), "", good("")},
		{0, read10(0, 20), "", good(zeros(20 * 512))},
		{0, zero16(1, 20), "", beyond},
		{0, zero16(0, 4097), "", wrong},
		{0, zero16(0, 4096), "", beyond},
		{1, read10(6, 64), "", good(blocks(6, 64))},
	} {
		want(t, fmt.Sprintf("%d: %x", i, z.s), Do(x, "h", z.lun, z.s, z.data), z.meant)
	}
}

func firstDifference(a, b string) int {
	for i := range len(a) {
		if a[i] != b[i] {
			return i
		}
	}
	return -1
}

// P19.2: a write with Fua is written through, and one without is held back until a flush.
func TestFua(t *testing.T) {
	x := plain(t, 20)
	for _, z := range []struct {
		s     string
		dirty int
	}{
		{write10(0, 2), 2}, {"\x2a\x08" + write10(2, 2)[2:], 0},
		{write16(0, 2), 2}, {"\x8a\x08" + write16(4, 2)[2:], 0},
		{"\x2a\xf7" + write10(2, 2)[2:], 2}, {flush10, 0},
	} {
		out, _ := Need(z.s)
		want(t, z.s, Do(x, "h", 0, z.s, noise(1, out)), good(""))
		if got := x.Cache().Dirty(); got != z.dirty {
			t.Errorf("%x: %d dirty, want %d", z.s, got, z.dirty)
		}
	}
}

// P19.2: changes and queries of reservations, of one unit.
func TestReservations(t *testing.T) {
	x := plain(t, 4, 4)
	const aptpl, key, other = true, 0x0123456789abcdef, 0xfedcba9876543210
	gen := func(n byte) string { return "\x00\x00\x00" + string(n) }
	for i, z := range []struct {
		host    string
		s, data string
		meant   api.Reply
	}{
		{"a", query10(0, 8), "", good(zeros(8))},
		{"a", query10(1, 8), "", good(zeros(8))},
		{"a", change10(0, 0), keysList(1, key, false), conflict},
		{"a", change10(0, 0), keysList(0, key, false), good("")},
		{"b", change10(6, 0), keysList(77, other, aptpl), good("")},
		{"c", query10(0, 99), "", good(gen(2) + gen(16) + eb(key, 8) + eb(other, 8))},
		{"c", query10(0, 24), "", good(gen(2) + gen(16) + eb(key, 8) + eb(other, 8))},
		{"c", query10(0, 23), "", good(gen(2) + gen(16) + eb(key, 8) + eb(other, 8)[:7])},
		{"c", query10(0, 3), "", good(gen(2)[:3])},
		{"c", query10(0, 0), "", good("")},
		{"a", change10(1, 1), keysList(key, 1, false), wrong},
		{"a", change10(1, 1), keysList(key, 0, aptpl), wrong},
		{"a", change10(0, 0), keysList(key, 0, false)[:23] + "\x01", wrong},
		{"a", change10(1, 1), keysList(other, 0, false), conflict},
		{"a", change10(1, 6), keysList(key, 0, false), good("")},
		{"c", query10(1, 99), "", good(gen(2) + gen(16) + eb(key, 8) + zeros(5) + "\x06\x00\x00")},
		{"c", query10(1, 22), "", good(gen(2) + gen(16) + eb(key, 8) + zeros(5) + "\x06")},
		{"c", query10(1, 0), "", good("")},
		{"c", read10(0, 1), "", conflict}, {"c", ready6, "", good("")}, {"c", capacity10, "", good("\x00\x00\x00\x03\x00\x00\x02\x00")},
		{"c", flush10, "", conflict}, {"c", unmap10(24), ranges(api.Range{}), conflict}, {"c", unmap10(24), zeros(24), wrong},
		{"c", zero16(0, 1), "", conflict}, {"c", compare16(0, 1), zeros(1024), conflict}, {"c", write10(9, 1), zeros(512), conflict},
		{"b", write10(0, 1), zeros(512), good("")},
		{"a", change10(2, 5), keysList(key, 0, false), wrong},
		{"b", change10(2, 6), keysList(other, 0, false), good("")},
		{"a", change10(2, 6), keysList(key, 0, false), good("")},
		{"b", read10(0, 0), "", check(6, 42, 4)},
		{"b", change10(1, 8), keysList(other, 0, false), good("")},
		{"b", query10(1, 24), "", good(gen(2) + gen(16) + zeros(8) + zeros(5) + "\x08\x00\x00")},
		{"a", change10(4, 7), keysList(key, 0, false), good("")},
		{"b", ready6, "", check(6, 42, 5)},
		{"a", query10(1, 24), "", good(gen(3) + gen(16) + zeros(8) + zeros(5) + "\x07\x00\x00")},
		{"a", query10(0, 65535), "", good(gen(3) + gen(8) + eb(key, 8))},
		{"b", change10(3, 0), keysList(key, 0, false), conflict},
		{"a", change10(3, 9), keysList(key, 0, false), good("")},
		{"a", query10(0, 65535), "", good(gen(4) + gen(0))},
		{"a", query10(1, 65535), "", good(gen(4) + gen(0))},
	} {
		want(t, fmt.Sprintf("%d: %x of %s", i, z.s, z.host), Do(x, z.host, 0, z.s, z.data), z.meant)
	}
	if table := x.Table(0); !table.Aptpl {
		t.Errorf("%+v", table)
	}
	if table := x.Table(1); len(table.Regs) != 0 || table.Gen != 0 {
		t.Errorf("%+v", table)
	}
}

// P19.2: as many registrants as there may be, and one more.
func TestSeventeen(t *testing.T) {
	x := plain(t, 4)
	text := ""
	for i := range api.MaxHosts {
		register(t, x, 0, fmt.Sprint("host", i), uint64(i+1))
		text += eb(uint64(i+1), 8)
	}
	want(t, "one more", Do(x, "z", 0, change10(0, 0), keysList(0, 99, false)), broken)
	want(t, "keys", Do(x, "z", 0, query10(0, 65535), ""), good("\x00\x00\x00\x10\x00\x00\x00\x80"+text))
}

// P19.2: who is no host gets Wrong, with no data whatever is wanted.
func TestNoHost(t *testing.T) {
	x := plain(t, 4)
	for _, host := range []string{"", "A", "1a", "a b", "a\x00", strings.Repeat("a", 65)} {
		for _, z := range samples() {
			want(t, fmt.Sprintf("%x of %q", z.s, host), Do(x, host, 0, z.s, z.data), wrong)
			want(t, fmt.Sprintf("%x of %q", z.s, host), Do(x, host, 1, z.s, z.data), noUnit)
		}
	}
}

// P19.2: with the device down.
func TestDown(t *testing.T) {
	x, d := made(t, 0, 4)
	register(t, x, 0, "a", 1)
	d.Arm(0)
	d.Flush()
	for i, z := range []struct {
		s, data string
		meant   api.Reply
	}{
		{read10(0, 1), "", broken}, {write10(0, 1), zeros(512), broken}, {flush10, "", broken}, {zero16(0, 1), "", broken},
		{unmap10(24), ranges(api.Range{Blocks: 1}), broken}, {compare16(0, 1), zeros(1024), broken},
		{change10(6, 0), keysList(0, 2, true), broken}, {change10(6, 0), keysList(0, 2, false), good("")},
		{ready6, "", good("")}, {capacity10, "", good("\x00\x00\x00\x03\x00\x00\x02\x00")},
		{query10(0, 99), "", good("\x00\x00\x00\x02\x00\x00\x00\x08" + eb(2, 8))},
	} {
		want(t, i, Do(x, "a", 0, z.s, z.data), z.meant)
	}
}

// P19.2: an executor of a store without units.
func TestNoUnits(t *testing.T) {
	c, _ := cache.New(new(store.Store), 1)
	x, err := exec.New(c)
	if err != api.OK {
		t.Fatal(err)
	}
	for _, z := range samples() {
		want(t, z.s, Do(x, "h", 0, z.s, z.data), noUnit)
	}
	want(t, "page", Do(x, "h", 0, page6(-1, 1), ""), good("\x7f"))
	want(t, "list", Do(x, "h", 0, list12(99), ""), good(zeros(8)))
}

// anyNumber is one of the range, or far from it.
func anyNumber(r *rand.Rand, most int) int {
	if r.Intn(30) == 0 {
		return []int{most + 1, -1, 1<<31 - 1, 1 << 31, math.MinInt, math.MaxInt}[r.Intn(6)]
	}
	return r.Intn(most + 1)
}

// anyAsk is what a block may ask of a unit with so many blocks, most often.
func anyAsk(r *rand.Rand, size int) cdb.Ask {
	ops := []int{0, 0x12, 0x25, 0x28, 0x88, 0x2a, 0x8a, 0x2a, 0x8a, 0x35, 0x42, 0x42, 0x89, 0x89, 0x93, 0x5e00, 0x5e01, 0x5f00, 0x5f01, 0x5f02, 0x5f03, 0x5f04, 0x5f06, 0xa0}
	a := cdb.Ask{Op: ops[r.Intn(len(ops))]}
	switch a.Op {
	case 0x12:
		a.Page, a.Want = []int{0, 256, 256 + 131, 256 + 176, 256 + 1}[r.Intn(5)], r.Intn(80)
	case 0x28, 0x88, 0x2a, 0x8a, 0x89, 0x93:
		a.Blocks = anyNumber(r, min(size, []int{3, 70}[r.Intn(2)]))
		a.Lba = anyNumber(r, size-min(max(a.Blocks, 0), size))
		a.Fua = r.Intn(9) == 0 && (a.Op == 0x2a || a.Op == 0x8a)
	case 0x42:
		a.Want = 8 + 16*r.Intn(5)
	case 0x5e00, 0x5e01:
		a.Want = r.Intn(40)
	case 0x5f00, 0x5f01, 0x5f02, 0x5f03, 0x5f04, 0x5f06:
		a.Want = 24
		if a.Op == 0x5f01 || a.Op == 0x5f02 || a.Op == 0x5f04 {
			a.Type = 1 + r.Intn(6)
		}
	case 0xa0:
		a.Want = 10 + r.Intn(40)
	}
	return a
}

// anyData is what such a block may take, most often.
func anyData(r *rand.Rand, y *exec.Exec, host string, lun, size int, a cdb.Ask, out int) string {
	switch {
	case r.Intn(20) == 0:
		return noise(r.Int(), []int{0, 1, 24, 511, 512, 1024}[r.Intn(6)])
	case a.Op == 0x42:
		l := make([]api.Range, (out-8)/16)
		for i := range l {
			lba := r.Intn(size + 1)
			l[i] = api.Range{Lba: lba, Blocks: r.Intn(size - lba + 1)}
		}
		return ranges(l...)
	case a.Op >= 0x5f00:
		key := uint64(r.Intn(4))
		for _, reg := range y.Table(lun).Regs {
			if reg.Host == host && r.Intn(8) > 0 {
				key = reg.Key
			}
		}
		second := uint64(r.Intn(4))
		if a.Op == 0x5f01 || a.Op == 0x5f02 || a.Op == 0x5f03 {
			second = uint64(r.Intn(20) / 19)
		}
		return keysList(key, second, r.Intn(9) == 0 && (a.Op == 0x5f00 || a.Op == 0x5f06))
	case a.Op == 0x89 && out <= 1024*size:
		there, _ := y.Cache().Read(lun, min(a.Lba, size-out/1024), out/1024)
		return there + blocks(r.Intn(3), out/1024)
	case out > 1<<20:
		return ""
	}
	return noise(r.Int(), out)
}

// P19.2: long lives against the chapter's words, with notifications, and a device that goes down at any operation.
func TestLives(t *testing.T) {
	statuses := map[api.Sense]int{}
	conflicts := 0
	for seed := range 60 {
		r := rand.New(rand.NewSource(int64(seed)))
		sizes := [][]int{{1}, {5, 2}, {70}, {30, 1, 64}}[seed%4]
		most := []int{0, 5, 256}[seed%3]
		x, d := made(t, most, sizes...)
		y, twin := made(t, most, sizes...)
		for range 300 {
			host := []string{"a", "b", "c"}[r.Intn(3)]
			if r.Intn(40) == 0 {
				host = []string{"", "A", "d.e:f"}[r.Intn(3)]
			}
			lun := r.Intn(len(sizes))
			size := sizes[lun]
			a := anyAsk(r, size)
			s, err := cdb.Build(a)
			if err != api.OK {
				s = noise(r.Int(), 10)
			}
			out, _ := modelNeed(s)
			data := anyData(r, y, host, lun, size, a, out)
			if r.Intn(40) == 0 {
				lun = anyNumber(r, 8)
			}
			if r.Intn(40) == 0 {
				why := 1 + r.Intn(4)
				x.Units().Add(lun, host, why)
				y.Units().Add(lun, host, why)
			}
			if r.Intn(300) == 0 {
				n := r.Intn(50)
				d.Arm(n)
				twin.Arm(n)
			}
			meant := modelDo(y, host, lun, s, data)
			if got := Do(x, host, lun, s, data); got != meant {
				t.Fatalf("%x of %q at %d with %d bytes: %s, want %s", s, host, lun, len(data), showReply(got), showReply(meant))
			}
			statuses[meant.Sense]++
			if meant.Status == 24 {
				conflicts++
			}
			if d.Ops() != twin.Ops() || d.Down() != twin.Down() || x.Cache().Dirty() != y.Cache().Dirty() {
				t.Fatal("the devices differ")
			}
		}
		finish(t, x, y, d, twin)
	}
	for _, r := range []api.Reply{good(""), wrong, beyond, noUnit, broken, check(6, 41, 0), check(6, 42, 3), check(6, 42, 4), check(6, 42, 5)} {
		if statuses[r.Sense] < 20 {
			t.Errorf("%+v: %d times", r.Sense, statuses[r.Sense])
		}
	}
	if conflicts < 100 {
		t.Error(conflicts)
	}
}

// finish holds two executors and their devices against each other.
func finish(t *testing.T, x, y *exec.Exec, d, twin *dev.Dev) {
	t.Helper()
	for lun, u := range y.Cache().Store().Units() {
		got, _ := x.Cache().Read(lun, 0, u.Blocks)
		if meant, _ := y.Cache().Read(lun, 0, u.Blocks); got != meant {
			t.Fatal("the blocks differ")
		}
		if got, meant := fmt.Sprint(x.Table(lun), x.Units().Hosts(lun)), fmt.Sprint(y.Table(lun), y.Units().Hosts(lun)); got != meant {
			t.Fatal(got, meant)
		}
		for _, host := range y.Units().Hosts(lun) {
			if x.Units().Wait(lun, host) != y.Units().Wait(lun, host) {
				t.Fatal("what is pending differs")
			}
		}
	}
	got, _ := d.Read(0, d.Size())
	if meant, _ := twin.Read(0, twin.Size()); got != meant {
		t.Fatal("the devices differ")
	}
}
