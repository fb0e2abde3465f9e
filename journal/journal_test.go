package journal

import (
	"math"
	"math/rand"
	"slices"
	"strconv"
	"strings"
	"testing"
	"unsafe"

	"headgate/api"
	"headgate/dev"
	"headgate/frame"
)

// text is n bytes of all values that show the number they were made from.
func text(seed, n int) string {
	b := make([]byte, n)
	v := uint64(seed)*2654435761 + 1
	for i := range b {
		v = v*6364136223846793005 + 1442695040888963407
		b[i] = byte(v >> 56)
	}
	return string(b)
}

func device(t *testing.T, sectors int) *dev.Dev {
	t.Helper()
	d, err := dev.New(sectors)
	if err != api.OK {
		t.Fatal(sectors, err)
	}
	return d
}

func format(t *testing.T, d *dev.Dev, from, sectors int, base string) *Journal {
	t.Helper()
	j, err := Format(d, from, sectors, base)
	if err != api.OK || j == nil {
		t.Fatalf("Format(%d, %d): %v", from, sectors, err)
	}
	return j
}

func open(t *testing.T, d *dev.Dev, from, sectors int) *Journal {
	t.Helper()
	j, err := Open(d, from, sectors)
	if err != api.OK || j == nil {
		t.Fatalf("Open(%d, %d): %v", from, sectors, err)
	}
	return j
}

func wantErr(t *testing.T, what string, got, want api.Errno) {
	t.Helper()
	if got != want {
		t.Errorf("%s: %v, want %v", what, got, want)
	}
}

// state is a base and records; each text with its length, so that no two states are told alike.
func state(base string, records ...string) string {
	s := ""
	for _, x := range append([]string{base}, records...) {
		s += strconv.Itoa(len(x)) + ":" + x
	}
	return s
}

func told(j *Journal) string { return state(j.Base(), j.Records()...) }

func wantState(t *testing.T, what string, j *Journal, room int, base string, records ...string) {
	t.Helper()
	if told(j) != state(base, records...) {
		t.Errorf("%s: a base of %d bytes and %d records, want %d and %d", what, len(j.Base()), len(j.Records()), len(base), len(records))
	}
	if j.Room() != room {
		t.Errorf("%s: room %d, want %d", what, j.Room(), room)
	}
}

// P6.1, P6.3: which ranges of sectors are right, for Format and Open.
func TestRanges(t *testing.T) {
	const size = 20
	edges := []int{math.MinInt, math.MinInt + 1, -1 << 32, -8, -1, 0, 1, 4, 7, 8, 9, 11, 12, 13, 19, 20, 21, 28, 1 << 32, 1<<32 + 8, 1 << 62, math.MaxInt - 8, math.MaxInt - 7, math.MaxInt}
	for _, from := range edges {
		for _, sectors := range edges {
			want, wantOpen := api.ErrArg, api.ErrArg
			if from >= 0 && from <= size && sectors >= 8 && sectors <= size && from+sectors <= size {
				want, wantOpen = api.OK, api.ErrImage
			}
			d := device(t, size)
			if j, err := Open(d, from, sectors); err != wantOpen || j != nil {
				t.Errorf("Open(%d, %d): %v", from, sectors, err)
			}
			j, err := Format(d, from, sectors, "b")
			if err != want || (j != nil) != (want == api.OK) {
				t.Errorf("Format(%d, %d): %v", from, sectors, err)
			}
			if want == api.OK {
				wantState(t, "opened", open(t, d, from, sectors), (sectors-4)/2-1, "b")
			}
		}
	}
	for _, base := range []string{"", "a", text(1, api.MaxFrame+1)} {
		if j, err := Format(nil, 0, 20, base); j != nil || err != api.ErrArg {
			t.Error("Format of no device", err)
		}
	}
	if j, err := Open(nil, 0, 20); j != nil || err != api.ErrArg {
		t.Error("Open of no device", err)
	}
}

// P6.1: of several errors the first one is told, and Format then leaves the device as it is.
func TestFormatOrder(t *testing.T) {
	long, full := text(1, api.MaxFrame+1), text(1, 1001)
	for _, x := range []struct {
		from, sectors int
		base          string
		want          api.Errno
	}{
		{0, 7, long, api.ErrArg}, {-1, 8, full, api.ErrArg}, {13, 8, "", api.ErrArg}, {0, 8, long, api.ErrLong}, {0, 8, text(1, api.MaxFrame), api.ErrFull}, {0, 8, full, api.ErrFull}, {0, 8, text(1, 1000), api.ErrDown}, {0, 20, "", api.ErrDown},
	} {
		for _, down := range []bool{true, false} {
			if !down && x.want == api.ErrDown {
				continue
			}
			d := device(t, 20)
			if down {
				d.Arm(0)
				d.Flush()
			}
			if j, err := Format(d, x.from, x.sectors, x.base); j != nil || err != x.want {
				t.Errorf("%d, %d, %d bytes: %v, want %v", x.from, x.sectors, len(x.base), err, x.want)
			}
			if d.Ops() != 0 {
				t.Errorf("%d, %d, %d bytes: the device was written", x.from, x.sectors, len(x.base))
			}
		}
	}
}

// P6.1: what a base may take, and the room that is left, in ranges of even and odd numbers of sectors.
func TestFormatRoom(t *testing.T) {
	for sectors := 8; sectors <= 41; sectors++ {
		size := (sectors - 4) / 2
		for k := 1; k <= size; k++ {
			// The shortest and the longest base of k sectors.
			for _, n := range []int{max((k-1)*512-23, 0), k*512 - 24} {
				d := device(t, sectors+3)
				j := format(t, d, 2, sectors, text(k, n))
				wantState(t, "formatted", j, size-k, text(k, n))
				wantState(t, "opened", open(t, d, 2, sectors), size-k, text(k, n))
				wantErr(t, "a sector too much", j.Append(text(1, max((size-k)*512-23, 0))), api.ErrFull)
				if k < size {
					wantErr(t, "all that is left", j.Append(text(1, (size-k)*512-24)), api.OK)
					wantState(t, "full", open(t, d, 2, sectors), 0, text(k, n), text(1, (size-k)*512-24))
				}
				wantErr(t, "nothing left", j.Append(""), api.ErrFull)
			}
		}
		if j, err := Format(device(t, sectors), 0, sectors, text(1, size*512-23)); j != nil || err != api.ErrFull {
			t.Errorf("%d sectors: %v", sectors, err)
		}
	}
}

// P6.1: what Format has made is safe at once.
func TestFormatSafe(t *testing.T) {
	for _, n := range []int{0, 1, 488, 489, 3000} {
		d := device(t, 30)
		format(t, d, 4, 24, text(3, n))
		for range 2 {
			d.Crash(nil)
			wantState(t, "crashed", open(t, d, 4, 24), 10-frame.Sectors(n), text(3, n))
		}
	}
}

// P6.1: a journal that stood there before, however old and long, is gone; what it left is never a state again.
func TestFormatAgain(t *testing.T) {
	for calls := range 12 {
		for _, sectors := range []int{30, 20} {
			d := device(t, 30)
			j := format(t, d, 0, 30, "old")
			for i := range calls {
				wantErr(t, "append", j.Append(text(i, 100)), api.OK)
				if i%5 == 4 {
					wantErr(t, "checkpoint", j.Checkpoint("older"), api.OK)
				}
			}
			j = format(t, d, 0, sectors, "new")
			d.Crash(nil)
			wantState(t, "formatted again", open(t, d, 0, sectors), (sectors-4)/2-1, "new")
			if j, err := Open(d, 0, 50-sectors); j != nil || err == api.OK {
				t.Error("the former range", err)
			}
			j = open(t, d, 0, sectors)
			for i := range 4 {
				wantErr(t, "append", j.Append(text(i, 10)), api.OK)
				d.Crash(nil)
				j = open(t, d, 0, sectors)
				if n := len(j.Records()); j.Base() != "new" || n > i+1 || n > 0 && j.Records()[0] != text(0, 10) && j.Records()[0] != text(i, 10) {
					t.Errorf("%d calls before: base %q, %d records", calls, j.Base(), n)
				}
			}
		}
	}
}

// P6.1, P6.2: a nil journal.
func TestNil(t *testing.T) {
	var j *Journal
	for _, s := range []string{"", "a", text(1, api.MaxFrame+1)} {
		wantErr(t, "append", j.Append(s), api.ErrArg)
		wantErr(t, "checkpoint", j.Checkpoint(s), api.ErrArg)
	}
	wantErr(t, "sync", j.Sync(), api.ErrArg)
	if j.Base() != "" || len(j.Records()) != 0 || j.Room() != 0 {
		t.Error("a nil journal has something")
	}
}

// P6.2: records stand in their order; what is refused changes neither the state nor the device.
func TestAppend(t *testing.T) {
	d := device(t, 40)
	j := format(t, d, 1, 34, "base")
	var records []string
	room := 14
	for i, x := range []struct {
		n    int
		want api.Errno
	}{
		{0, api.OK}, {1, api.OK}, {488, api.OK}, {489, api.OK}, {4585, api.ErrFull}, {api.MaxFrame + 1, api.ErrLong}, {api.MaxFrame, api.ErrFull},
		{1000, api.OK}, {1001, api.OK}, {2025, api.ErrFull}, {600, api.OK}, {1001, api.ErrFull}, {1000, api.OK}, {0, api.ErrFull}, {1 << 20, api.ErrLong},
	} {
		ops := d.Ops()
		wantErr(t, "append "+strconv.Itoa(i), j.Append(text(i, x.n)), x.want)
		if x.want == api.OK {
			records = append(records, text(i, x.n))
			room -= frame.Sectors(x.n)
		} else if d.Ops() != ops {
			t.Errorf("append %d: the device was written", i)
		}
		wantState(t, "append "+strconv.Itoa(i), j, room, "base", records...)
	}
	wantState(t, "opened", open(t, d, 1, 34), room, "base", records...)
}

// P6.2: a checkpoint takes the place of all; it needs no room beside the base's.
func TestCheckpoint(t *testing.T) {
	d := device(t, 30)
	j := format(t, d, 3, 21, "base")
	for i, x := range []struct {
		n    int
		want api.Errno
	}{
		{0, api.OK}, {488, api.OK}, {4072, api.OK}, {4073, api.ErrFull}, {api.MaxFrame, api.ErrFull}, {api.MaxFrame + 1, api.ErrLong}, {489, api.OK}, {3000, api.OK}, {1 << 20, api.ErrLong}, {7, api.OK},
	} {
		was, room, ops := told(j), j.Room(), d.Ops()
		wantErr(t, "checkpoint "+strconv.Itoa(i), j.Checkpoint(text(i, x.n)), x.want)
		if x.want != api.OK {
			if told(j) != was || j.Room() != room || d.Ops() != ops {
				t.Errorf("checkpoint %d was refused and did something", i)
			}
			continue
		}
		room = 8 - frame.Sectors(x.n)
		wantState(t, "checkpoint "+strconv.Itoa(i), j, room, text(i, x.n))
		wantState(t, "opened", open(t, d, 3, 21), room, text(i, x.n))
		var records []string
		for k := range room {
			wantErr(t, "append", j.Append(text(k, 100)), api.OK)
			records = append(records, text(k, 100))
		}
		wantState(t, "full", j, 0, text(i, x.n), records...)
		wantState(t, "full and opened", open(t, d, 3, 21), 0, text(i, x.n), records...)
	}
}

// P6.2: texts of the greatest length, on the greatest device, and as many records as there is room for.
func TestGreat(t *testing.T) {
	d := device(t, api.MaxSectors)
	j := format(t, d, 0, api.MaxSectors, text(1, api.MaxFrame))
	wantErr(t, "too long", j.Append(text(1, api.MaxFrame+1)), api.ErrLong)
	wantErr(t, "too long", j.Checkpoint(text(1, api.MaxFrame+1)), api.ErrLong)
	wantErr(t, "append", j.Append(text(2, api.MaxFrame)), api.OK)
	wantState(t, "opened", open(t, d, 0, api.MaxSectors), 4094-2*129, text(1, api.MaxFrame), text(2, api.MaxFrame))
	wantErr(t, "checkpoint", j.Checkpoint(text(3, api.MaxFrame)), api.OK)
	want := make([]string, 4094-129)
	for i := range want {
		want[i] = strconv.Itoa(i)
		wantErr(t, "append", j.Append(want[i]), api.OK)
	}
	wantErr(t, "full", j.Append(""), api.ErrFull)
	wantErr(t, "sync", j.Sync(), api.OK)
	d.Crash(nil)
	wantState(t, "crashed", open(t, d, 0, api.MaxSectors), 0, text(3, api.MaxFrame), want...)
}

// P6.2: what was synced survives; all of what stood before, in its order.
func TestSync(t *testing.T) {
	d := device(t, 60)
	j := format(t, d, 5, 50, "base")
	var want []string
	for i := range 20 {
		want = append(want, text(i, i*7))
		wantErr(t, "append", j.Append(want[i]), api.OK)
		wantErr(t, "sync", j.Sync(), api.OK)
		d.Crash(nil)
		j = open(t, d, 5, 50)
		wantState(t, "synced", j, 22-i-1, "base", want...)
	}
	wantErr(t, "checkpoint", j.Checkpoint("other"), api.OK)
	wantErr(t, "sync", j.Sync(), api.OK)
	d.Crash(nil)
	wantState(t, "synced", open(t, d, 5, 50), 22, "other")
}

// P6.3: a device that is down comes before a range without a journal.
func TestOpenDown(t *testing.T) {
	d := device(t, 20)
	format(t, d, 0, 10, "b")
	d.Arm(0)
	wantErr(t, "flush", d.Flush(), api.ErrDown)
	for _, from := range []int{0, 5, 10} {
		if j, err := Open(d, from, 10); j != nil || err != api.ErrDown {
			t.Error(from, err)
		}
	}
	if j, err := Open(d, 11, 10); j != nil || err != api.ErrArg {
		t.Error(err)
	}
}

// P6.3: the device goes down while the journal is opened: there is none, or what is opened is safe.
func TestOpenGoesDown(t *testing.T) {
	for n := range 4 {
		d := device(t, 20)
		j := format(t, d, 0, 20, "b")
		wantErr(t, "append", j.Append("r"), api.OK)
		d.Arm(n)
		k, err := Open(d, 0, 20)
		if d.Down() != (err == api.ErrDown) || (k == nil) != (err == api.ErrDown) || err != api.OK && err != api.ErrDown {
			t.Error(n, err)
		}
		d.Crash(nil)
		if was := open(t, d, 0, 20); err == api.OK && told(was) != state("b", "r") {
			t.Error(n, "what was opened is lost")
		}
	}
}

// P6.3: there is no journal in what is no journal's range, or holds other bytes.
func TestOpenImage(t *testing.T) {
	none := func(what string, d *dev.Dev, from, sectors int) {
		t.Helper()
		if j, err := Open(d, from, sectors); j != nil || err != api.ErrImage {
			t.Errorf("%s: Open(%d, %d): %v", what, from, sectors, err)
		}
	}
	d := device(t, 40)
	none("zeros", d, 0, 40)
	d.Write(0, text(1, 40*512))
	none("noise", d, 0, 40)
	d.Write(0, strings.Repeat("\xff", 40*512))
	none("ones", d, 0, 40)
	one, _ := frame.Put(1, "")
	d.Write(0, strings.Repeat(one, 40))
	none("frames", d, 0, 40)
	j := format(t, d, 8, 22, "base")
	for i := range 6 {
		wantErr(t, "append", j.Append(text(i, 10)), api.OK)
		for from := range 32 {
			for sectors := 8; sectors <= 40-from; sectors++ {
				if from != 8 || sectors != 22 {
					none("another range", d, from, sectors)
				}
			}
		}
	}
	// Its sectors at another place are not a journal of that place.
	all, _ := d.Read(8, 22)
	for _, at := range []int{0, 4, 12, 18} {
		e := device(t, 40)
		e.Write(at, all)
		none("moved", e, at, 22)
		e = device(t, 40)
		e.Write(8, all)
		wantState(t, "the same place", open(t, e, 8, 22), 2, "base", j.Records()...)
	}
}

// P6.3: an image whose bytes were changed is opened or not, but always answered; what can't be the journal's is not told.
func TestOpenChanged(t *testing.T) {
	d := device(t, 14)
	j := format(t, d, 0, 14, "base")
	wantErr(t, "append", j.Append(text(1, 600)), api.OK)
	wantErr(t, "append", j.Append("last"), api.OK)
	all, _ := d.Read(0, 14)
	states := []string{state("base"), state("base", text(1, 600)), state("base", text(1, 600), "last")}
	for i := range all {
		for _, by := range []byte{1, 0x80, 0xff} {
			b := []byte(all)
			b[i] ^= by
			e := device(t, 14)
			e.Write(0, string(b))
			k, err := Open(e, 0, 14)
			if err == api.OK && !slices.Contains(states, told(k)) || err != api.OK && (err != api.ErrImage || k != nil) {
				t.Fatalf("byte %d: %v", i, err)
			}
		}
	}
}

// P6.3: heads that no journal writes are not taken for one, though they are whole and nothing else speaks against them.
func TestOpenHeads(t *testing.T) {
	for i, h := range []head{{5, 2, 0}, {5, 1 << 31, 0}, {5, 0, 1}, {5, 0, 100}, {5, 0, math.MaxUint32}, {5, 1, 0}, {6, 0, 0}, {math.MaxUint64, 0, 0}, {0, 0, 0}, {5, 0, 0}} {
		a := area{device(t, 20), 0, 20}
		body, _ := frame.Put(5, "base")
		a.d.Write(a.half(0), body)
		a.d.Write(a.slot(h.number), a.sector(h))
		j, err := Open(a.d, 0, 20)
		if whole := i == 9; whole != (err == api.OK) || !whole && err != api.ErrImage {
			t.Errorf("head %d: %v", i, err)
		} else if whole {
			wantState(t, "a head", j, 7, "base")
		}
		// In another slot than its number's.
		a.d.Write(0, strings.Repeat("\x00", 4*512))
		a.d.Write((a.slot(h.number)+1)%4, a.sector(h))
		if j, err := Open(a.d, 0, 20); j != nil || err != api.ErrImage {
			t.Errorf("head %d, another slot: %v", i, err)
		}
	}
}

// P6.3: without a crash the last state is opened, synced or not, and is safe then.
func TestOpenLast(t *testing.T) {
	for seed := range 30 {
		r := rand.New(rand.NewSource(int64(seed)))
		d := device(t, 50)
		j := format(t, d, 6, 40, "base")
		for range 40 {
			var err api.Errno
			switch r.Intn(8) {
			case 0:
				err = j.Checkpoint(text(r.Int(), r.Intn(1200)))
			case 1:
				err = j.Sync()
			default:
				err = j.Append(text(r.Int(), r.Intn(1200)))
			}
			if err != api.OK && err != api.ErrFull {
				t.Fatal(err)
			}
			if r.Intn(3) > 0 {
				continue
			}
			want, room := told(j), j.Room()
			j = open(t, d, 6, 40)
			if told(j) != want || j.Room() != room {
				t.Fatal("not the last state")
			}
			if r.Intn(2) == 0 {
				d.Crash(nil)
				if j = open(t, d, 6, 40); told(j) != want {
					t.Fatal("what was opened is not safe")
				}
			}
		}
	}
}

// P6.3: the chapter's example.
func TestExample(t *testing.T) {
	for _, keep := range [][]int{nil, slices.Repeat([]int{512}, 10)} {
		d := device(t, 20)
		wantErr(t, "append", format(t, d, 0, 20, "a").Append("b"), api.OK)
		d.Crash(keep)
		j := open(t, d, 0, 20)
		if j.Base() != "a" || len(j.Records()) > 1 || len(j.Records()) == 1 && j.Records()[0] != "b" {
			t.Error("neither without nor with the record")
		}
		if keep != nil && len(j.Records()) != 1 {
			t.Error("what was written has survived, and the record is lost")
		}
	}
}

// call is one of the calls that add a state, and the state that it adds.
type call struct {
	checkpoint bool
	text       string
}

func (c call) on(j *Journal) api.Errno {
	if c.checkpoint {
		return j.Checkpoint(c.text)
	}
	return j.Append(c.text)
}

func (c call) next(base string, records []string) string {
	if c.checkpoint {
		return state(c.text)
	}
	return state(base, append(slices.Clone(records), c.text)...)
}

// aged is a journal whose next state has a given number, as if it had gone on for long.
func aged(t *testing.T, d *dev.Dev, sectors int, number uint64) *Journal {
	t.Helper()
	j := format(t, d, 0, sectors, "base")
	j.number.Store(number - 1 - slots)
	for range slots - 1 {
		wantErr(t, "checkpoint", j.Checkpoint("old"), api.OK)
	}
	wantErr(t, "append", j.Append("first"), api.OK)
	wantErr(t, "sync", j.Sync(), api.OK)
	return j
}

// carries are numbers that differ in several bytes from those before them.
var carries = []uint64{6, 0x100, 0x101, 0x102, 0x104, 0x10000, 0x10003, 1 << 32, 1<<56 + 1}

// P6.3: a call that goes down with any operation, or is crashed behind the last one, with one write that is torn at any
// byte and the others lost, kept or torn too.
func TestTorn(t *testing.T) {
	calls := []call{{false, "second"}, {false, text(5, 1300)}, {true, "new"}, {true, text(6, 900)}}
	for _, number := range carries {
		for _, c := range calls {
			through := false
			for ops := 0; !through; ops++ {
				// How many writes are held back then is asked of a first run.
				held := 0
				held, through = tear(t, number, c, ops, nil)
				for torn := range held {
					for at := range 513 {
						if number != 0x100 && at > 40 && at < 500 && at%60 != 0 {
							continue
						}
						keep := slices.Repeat([]int{[]int{0, 512, 100}[(at+ops)%3]}, held)
						keep[torn] = at
						tear(t, number, c, ops, keep)
					}
				}
			}
		}
	}
}

// tear lets a call go down after so many operations, crashes, and tells how many writes were held back, and whether
// the call was through.
func tear(t *testing.T, number uint64, c call, ops int, keep []int) (int, bool) {
	t.Helper()
	d := device(t, 14)
	j := aged(t, d, 14, number)
	d.Arm(ops)
	err := c.on(j)
	if err != api.OK && err != api.ErrDown {
		t.Fatal(err)
	}
	held := d.Held()
	d.Crash(keep)
	k := open(t, d, 0, 14)
	if s := told(k); s != state("old", "first") && s != c.next("old", []string{"first"}) {
		t.Fatalf("number %d, down after %d, kept %v: another state", number, ops, keep)
	}
	was := told(k)
	d.Crash(nil)
	if k = open(t, d, 0, 14); told(k) != was {
		t.Fatalf("number %d, down after %d, kept %v: not safe", number, ops, keep)
	}
	return held, err == api.OK
}

// lastTorn lets a call's last write, the head, be torn at this byte.
func lastTorn(t *testing.T, d *dev.Dev, j *Journal, c call, at int) *Journal {
	t.Helper()
	// With its head the call is through, but for a flush.
	n := frame.Sectors(len(c.text)) + 2
	d.Arm(n)
	c.on(j)
	if d.Held() != 1 {
		t.Fatal("not only a head is held back", d.Held())
	}
	d.Crash([]int{at})
	return open(t, d, 0, 8)
}

// P6.3: heads that are torn over what is left of others that were torn, of another call with the same number.
func TestTornTwice(t *testing.T) {
	var places []int
	for at := range 513 {
		if at < 34 || at > 500 || at%60 == 0 {
			places = append(places, at)
		}
	}
	for _, number := range carries {
		for i, first := range places {
			for k, second := range places {
				if number != 0x100 && (i+k)%7 != 0 {
					continue
				}
				c, b := call{false, "first call"}, call{true, "second call"}
				if (i+k)%2 == 0 {
					c, b = b, c
				}
				d := device(t, 8)
				j := format(t, d, 0, 8, "base")
				j.number.Store(number - 1 - slots)
				for range slots {
					wantErr(t, "checkpoint", j.Checkpoint("old"), api.OK)
				}
				j = lastTorn(t, d, j, c, first)
				if s := told(j); s != state("old") && s != c.next("old", nil) {
					t.Fatalf("number %d, torn at %d: another state", number, first)
				}
				if told(j) != state("old") {
					continue
				}
				j = lastTorn(t, d, j, b, second)
				if s := told(j); s != state("old") && s != b.next("old", nil) {
					t.Fatalf("number %d, torn at %d and %d: another state", number, first, second)
				}
			}
		}
	}
}

// P6.3: sectors of former records that make what is torn a frame with right checksums, of a text that nobody gave.
func TestCrafted(t *testing.T) {
	// The frame of news has its first sector's bytes, and those of evil behind them, with their checksum.
	news := text(1, 900)
	evil := news[:492] + text(2, 900-492)
	forged, _ := frame.Put(1, evil)
	tail := forged[512:]
	for ops := range 8 {
		for mask := range 16 {
			for _, keeps := range []int{0, 100, 512} {
				d := device(t, 20)
				j := format(t, d, 0, 20, "b")
				crafted := text(3, 492) + tail[:484]
				wantErr(t, "append", j.Append(crafted), api.OK)
				for _, base := range []string{"c", "d"} {
					wantErr(t, "checkpoint", j.Checkpoint(base), api.OK)
				}
				wantErr(t, "sync", j.Sync(), api.OK)
				d.Arm(ops)
				if err := j.Append(news); err != api.OK && err != api.ErrDown {
					t.Fatal(err)
				}
				d.Crash(masked(mask, keeps))
				k := open(t, d, 0, 20)
				if s := told(k); s != state("d") && s != state("d", news) {
					t.Errorf("down after %d, writes %b: another state", ops, mask)
				}
			}
		}
	}
}

// masked keeps the writes whose bits are set in mask, and n bytes of the others.
func masked(mask, n int) []int {
	keep := make([]int, 8)
	for i := range keep {
		keep[i] = n
		if mask>>i&1 == 1 {
			keep[i] = 512
		}
	}
	return keep
}

// crafty is a text whose sectors in a frame are themselves frames, or heads, of numbers to come.
func crafty(r *rand.Rand, a area, number uint64) string {
	s := text(r.Int(), 492)
	for range 1 + r.Intn(3) {
		n := number + uint64(r.Intn(6)) - 1
		if r.Intn(3) == 0 {
			s += a.sector(head{n, r.Intn(2), r.Intn(4)})
			continue
		}
		one, _ := frame.Put(n, text(r.Int(), r.Intn(480)))
		s += one
	}
	// Without its last bytes, where the frame's own checksum may stand in the same sector.
	return s[:len(s)-r.Intn(2)*24]
}

// life is a journal, its device, and its states in the chapter's words.
type life struct {
	t      *testing.T
	r      *rand.Rand
	d      *dev.Dev
	a      area
	j      *Journal
	states []string
	bases  []string
	lists  [][]string
	safe   int
}

func (l *life) add(base string, records []string) {
	l.states = append(l.states, state(base, records...))
	l.bases, l.lists = append(l.bases, base), append(l.lists, records)
}

// begin is the first state.
func (l *life) begin(j *Journal) {
	l.j, l.states, l.bases, l.lists, l.safe = j, nil, nil, nil, 0
	l.add(j.Base(), j.Records())
}

func (l *life) crash() {
	l.t.Helper()
	keep := make([]int, l.r.Intn(12))
	all := []int{0, 512, l.r.Intn(513), 512}[l.r.Intn(4)]
	for i := range keep {
		keep[i] = []int{all, all, 0, 512, l.r.Intn(513), 504 + l.r.Intn(9), l.r.Intn(16)}[l.r.Intn(7)]
	}
	l.d.Crash(keep)
	j := open(l.t, l.d, l.a.from, l.a.sectors)
	if !slices.Contains(l.states[l.safe:], told(j)) {
		l.t.Fatal("no state that may be left")
	}
	l.begin(j)
}

func (l *life) reopen() {
	l.t.Helper()
	j, err := Open(l.d, l.a.from, l.a.sectors)
	if err == api.ErrDown && l.d.Down() {
		l.crash()
		return
	}
	if err != api.OK || told(j) != l.states[len(l.states)-1] {
		l.t.Fatal("not the last state", err)
	}
	l.begin(j)
}

func (l *life) change() {
	l.t.Helper()
	c := call{checkpoint: l.r.Intn(4) == 0, text: text(l.r.Int(), l.r.Intn(1100))}
	if l.r.Intn(2) == 0 {
		c.text = crafty(l.r, l.a, l.j.number.Load())
	}
	base, records := l.bases[len(l.bases)-1], l.lists[len(l.lists)-1]
	room := l.j.Room()
	if c.checkpoint {
		room = (l.a.sectors - 4) / 2
	}
	was, ops := told(l.j), l.d.Ops()
	err := c.on(l.j)
	if frame.Sectors(len(c.text)) > room {
		if err != api.ErrFull || told(l.j) != was || l.d.Ops() != ops {
			l.t.Fatal("full", err)
		}
		return
	}
	if c.checkpoint {
		l.add(c.text, nil)
	} else {
		l.add(base, append(slices.Clone(records), c.text))
	}
	l.ended(err, was, l.states[len(l.states)-1])
}

// ended holds a call's error against the device, and the journal's state behind it against what it must be.
func (l *life) ended(err api.Errno, was, next string) {
	l.t.Helper()
	if l.d.Down() != (err == api.ErrDown) || err != api.OK && err != api.ErrDown {
		l.t.Fatal("an error of no device", err)
	}
	if err == api.OK && told(l.j) != next || err != api.OK && told(l.j) != was {
		l.t.Fatal("another state than the call's")
	}
	if err != api.OK {
		l.crash()
	}
}

// P6.1 to P6.4: long lives with crashes at any operation, several of them, and texts that look like what a journal writes.
func TestLives(t *testing.T) {
	for seed := range 400 {
		r := rand.New(rand.NewSource(int64(seed)))
		sectors := 8 + r.Intn(20)
		l := &life{t: t, r: r, d: device(t, sectors+6), a: area{nil, 3, sectors}}
		border := text(seed, 3*512)
		l.d.Write(0, border)
		l.d.Write(sectors+3, border)
		l.begin(format(t, l.d, 3, sectors, "base"))
		for range 120 {
			switch r.Intn(12) {
			case 0:
				l.crash()
			case 1:
				l.reopen()
			case 2:
				was := told(l.j)
				err := l.j.Sync()
				if err == api.OK {
					l.safe = len(l.states) - 1
				}
				l.ended(err, was, was)
			case 3, 4:
				l.d.Arm(r.Intn(14))
			default:
				l.change()
			}
		}
		l.crash()
		for _, at := range []int{0, sectors + 3} {
			if s, _ := l.d.Read(at, 3); s != border {
				t.Fatal("another sector was written")
			}
		}
	}
}

// P6.4: journals side by side, at the edges of a device and of each other, do not touch.
func TestApart(t *testing.T) {
	d := device(t, 33)
	var l []*Journal
	ranges := [][2]int{{0, 8}, {8, 9}, {17, 16}}
	for i, x := range ranges {
		l = append(l, format(t, d, x[0], x[1], text(i, 400)))
	}
	for step := range 20 {
		for i, j := range l {
			others := told(l[(i+1)%3]) + told(l[(i+2)%3])
			if err := j.Append(text(step*3+i, 300)); err == api.ErrFull {
				wantErr(t, "checkpoint", j.Checkpoint(text(step*3+i, j.size()*512-24)), api.OK)
			}
			wantErr(t, "sync", j.Sync(), api.OK)
			want := told(j)
			if told(open(t, d, ranges[i][0], ranges[i][1])) != want {
				t.Fatal("not the last state", step, i)
			}
			for k, x := range ranges {
				l[k] = open(t, d, x[0], x[1])
			}
			if told(l[(i+1)%3])+told(l[(i+2)%3]) != others {
				t.Fatal("another journal has changed", step, i)
			}
		}
	}
}

// P6.4: a range that ends with its journal's last half: nothing behind it is written, and nothing before it.
func TestOtherSectors(t *testing.T) {
	for sectors := 8; sectors < 14; sectors++ {
		d := device(t, sectors+2)
		border := text(sectors, 512)
		d.Write(0, border)
		d.Write(sectors+1, border)
		j := format(t, d, 1, sectors, text(1, (sectors-4)/2*512-24))
		for i := range 9 {
			wantErr(t, "checkpoint", j.Checkpoint(text(i, (sectors-4)/2*512-24)), api.OK)
			wantErr(t, "checkpoint", j.Checkpoint(""), api.OK)
			wantErr(t, "append", j.Append(text(i, (sectors-6)/2*512-24)), api.OK)
		}
		for _, at := range []int{0, sectors + 1} {
			if s, err := d.Read(at, 1); s != border || err != api.OK {
				t.Errorf("%d sectors: sector %d was written (%v)", sectors, at, err)
			}
		}
	}
}

// wantUnfit holds that a journal answers ErrDown to all, and tells what it told before.
func wantUnfit(t *testing.T, j *Journal, was string, room int) {
	t.Helper()
	for range 2 {
		for _, s := range []string{"", "a", text(1, 5000), text(1, api.MaxFrame), text(1, api.MaxFrame+1)} {
			wantErr(t, "unfit append", j.Append(s), api.ErrDown)
			wantErr(t, "unfit checkpoint", j.Checkpoint(s), api.ErrDown)
		}
		wantErr(t, "unfit sync", j.Sync(), api.ErrDown)
		if told(j) != was || j.Room() != room {
			t.Error("an unfit journal tells something else")
		}
	}
}

// P6.4: a journal is unfit after an error of the device, in any call with any operation.
func TestUnfit(t *testing.T) {
	calls := []func(j *Journal) api.Errno{
		func(j *Journal) api.Errno { return j.Append("r") },
		func(j *Journal) api.Errno { return j.Append(text(1, 1500)) },
		func(j *Journal) api.Errno { return j.Checkpoint("c") },
		func(j *Journal) api.Errno { return j.Checkpoint(text(1, 1500)) },
		func(j *Journal) api.Errno { return j.Sync() },
	}
	for i, c := range calls {
		down := 0
		for ops := range 12 {
			d := device(t, 24)
			j := format(t, d, 0, 24, "base")
			wantErr(t, "append", j.Append("one"), api.OK)
			was, room := told(j), j.Room()
			d.Arm(ops)
			err := c(j)
			if (err == api.ErrDown) != d.Down() || err != api.OK && err != api.ErrDown {
				t.Errorf("call %d, down after %d: %v", i, ops, err)
			}
			if err == api.ErrDown {
				down++
				wantUnfit(t, j, was, room)
			}
		}
		if down == 0 {
			t.Errorf("call %d never went down", i)
		}
	}
}

// P6.4: what a call refuses for its argument is no error of the device, though the device is down.
func TestRefusedWhileDown(t *testing.T) {
	d := device(t, 20)
	j := format(t, d, 0, 20, "base")
	d.Arm(0)
	wantErr(t, "flush", d.Flush(), api.ErrDown)
	for range 2 {
		wantErr(t, "append", j.Append(text(1, api.MaxFrame+1)), api.ErrLong)
		wantErr(t, "append", j.Append(text(1, 8*512)), api.ErrFull)
		wantErr(t, "checkpoint", j.Checkpoint(text(1, api.MaxFrame+1)), api.ErrLong)
		wantErr(t, "checkpoint", j.Checkpoint(text(1, 8*512)), api.ErrFull)
	}
	wantErr(t, "append", j.Append("r"), api.ErrDown)
	wantUnfit(t, j, state("base"), 7)
	d.Crash(nil)
	k := open(t, d, 0, 20)
	wantErr(t, "append", k.Append("r"), api.OK)
	wantState(t, "opened again", k, 6, "base", "r")
}

// Rule 2: answers are new memory, and what is done to them does nothing to the journal.
func TestMemory(t *testing.T) {
	base, record := "some base", "some record"
	d := device(t, 20)
	j := format(t, d, 0, 20, base)
	wantErr(t, "append", j.Append(record), api.OK)
	place := func(s string) *byte { return unsafe.StringData(s) }
	if b := j.Base(); place(b) == place(base) || place(b) == place(j.Base()) {
		t.Error("a base is shared")
	}
	l, again := j.Records(), j.Records()
	if place(l[0]) == place(record) || place(l[0]) == place(again[0]) || &l[0] == &again[0] {
		t.Error("a record is shared")
	}
	l[0] = "x"
	_ = append(l[:0], "y")
	wantErr(t, "append", j.Append("next"), api.OK)
	wantState(t, "after all", j, 5, base, record, "next")
	if len(again) != 1 || cap(again) != 1 {
		t.Error("an answer changed")
	}
}
