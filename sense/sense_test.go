package sense

import (
	"math"
	"math/rand"
	"strings"
	"testing"

	"headgate/api"
)

const maxPlace = 1<<32 - 1

// around are numbers at both sides of each end that a part of a sense has, far from them, and ones that would be within if
// some of their bits were lost.
func around() []int {
	l := []int{math.MinInt, math.MinInt + 1, math.MaxInt, math.MaxInt - 1, math.MinInt32, math.MaxInt32}
	for _, n := range []int{0, 15, 255, 258, 1 << 8, 1 << 16, 1 << 24, 1 << 31, 1 << 32, 1 << 33, 1 << 62, 0x12345678, 0xfedcba98} {
		for d := -2; d <= 2; d++ {
			l = append(l, n+d, -n+d)
		}
	}
	return l
}

// holdBytes holds Bytes of x against the chapter's words, and that Parse of them is x.
func holdBytes(t *testing.T, x api.Sense) {
	t.Helper()
	want, ok := modelBytes(x)
	got, err := Bytes(x)
	if !ok {
		if got != "" || err != api.ErrSense {
			t.Fatalf("Bytes(%+v): %x, %v, though it is no sense", x, got, err)
		}
		return
	}
	if got != want || err != api.OK {
		t.Fatalf("Bytes(%+v): %x, %v, not %x", x, got, err, want)
	}
	if back, err := Parse(got); back != x || err != api.OK {
		t.Fatalf("Parse(%x): %+v, %v, not %+v", got, back, err, x)
	}
}

// holdParse holds Parse of s against the chapter's words, and that Bytes of the sense is s.
func holdParse(t *testing.T, s string) {
	t.Helper()
	want, ok := modelParse(s)
	got, err := Parse(s)
	if !ok {
		if got != (api.Sense{}) || err != api.ErrSense {
			t.Fatalf("Parse(%x): %+v, %v, though these are no sense's bytes", s, got, err)
		}
		return
	}
	if got != want || err != api.OK {
		t.Fatalf("Parse(%x): %+v, %v, not %+v", s, got, err, want)
	}
	if back, err := Bytes(got); back != s || err != api.OK {
		t.Fatalf("Bytes(%+v): %x, %v, not %x", got, back, err, s)
	}
}

// holdOf holds Of o against the chapter's words, and Code of what it answers.
func holdOf(t *testing.T, o api.Out) {
	t.Helper()
	wantStatus, want, ok := modelOf(o)
	status, x := Of(o)
	if status != wantStatus || x != want {
		t.Fatalf("Of(%+v): %d, %+v, not %d, %+v", o, status, x, wantStatus, want)
	}
	back := [3]int{api.Broken, 0, 0}
	if ok {
		back[0] = o.Code
		switch o.Code {
		case api.Differ:
			back[1] = o.At
		case api.Told:
			back[2] = o.Why
		}
	}
	if code, at, why, ok := Code(status, x); [3]int{code, at, why} != back || !ok {
		t.Fatalf("Code of what Of(%+v) answers: %d, %d, %d, %v, not %v", o, code, at, why, ok, back)
	}
}

// holdCode holds Code against the chapter's words.
func holdCode(t *testing.T, status int, x api.Sense) {
	t.Helper()
	wantCode, wantAt, wantWhy, want := modelCode(status, x)
	code, at, why, ok := Code(status, x)
	if code != wantCode || at != wantAt || why != wantWhy || ok != want {
		t.Fatalf("Code(%d, %+v): %d, %d, %d, %v, not %d, %d, %d, %v", status, x, code, at, why, ok, wantCode, wantAt, wantWhy, want)
	}
}

// The chapter's example.
func TestExample(t *testing.T) {
	if status, x := Of(api.Out{Code: api.Differ, At: 3}); status != 2 || x != (api.Sense{Key: 14, Asc: 29, At: 3}) {
		t.Error(status, x)
	}
}

// P16.1: senses and their bytes, written out, with parts that all differ.
func TestWritten(t *testing.T) {
	for _, z := range []struct {
		x api.Sense
		s string
	}{
		{api.Sense{At: -1}, "\x70\x00\x00\x00\x00\x00\x00\x0a\x00\x00\x00\x00\x00\x00\x00\x00\x00\x00"},
		{api.Sense{}, "\xf0\x00\x00\x00\x00\x00\x00\x0a\x00\x00\x00\x00\x00\x00\x00\x00\x00\x00"},
		{api.Sense{Key: 5, Asc: 36, At: -1}, "\x70\x00\x05\x00\x00\x00\x00\x0a\x00\x00\x00\x00\x24\x00\x00\x00\x00\x00"},
		{api.Sense{Key: 6, Asc: 42, Ascq: 3, At: -1}, "\x70\x00\x06\x00\x00\x00\x00\x0a\x00\x00\x00\x00\x2a\x03\x00\x00\x00\x00"},
		{api.Sense{Key: 14, Asc: 29, At: 0x12345678}, "\xf0\x00\x0e\x12\x34\x56\x78\x0a\x00\x00\x00\x00\x1d\x00\x00\x00\x00\x00"},
		{api.Sense{Key: 1, Asc: 0xab, Ascq: 0xcd, At: 0xfedcba98}, "\xf0\x00\x01\xfe\xdc\xba\x98\x0a\x00\x00\x00\x00\xab\xcd\x00\x00\x00\x00"},
		{api.Sense{Key: 15, Asc: 255, Ascq: 255, At: -1}, "\x70\x00\x0f\x00\x00\x00\x00\x0a\x00\x00\x00\x00\xff\xff\x00\x00\x00\x00"},
		{api.Sense{Key: 15, Asc: 255, Ascq: 255, At: maxPlace}, "\xf0\x00\x0f\xff\xff\xff\xff\x0a\x00\x00\x00\x00\xff\xff\x00\x00\x00\x00"},
	} {
		if got, err := Bytes(z.x); got != z.s || err != api.OK {
			t.Errorf("Bytes(%+v): %x, %v", z.x, got, err)
		}
		if got, err := Parse(z.s); got != z.x || err != api.OK {
			t.Errorf("Parse(%x): %+v, %v", z.s, got, err)
		}
	}
}

// P16.1: what is no sense, each for one reason.
func TestNoSense(t *testing.T) {
	for _, x := range []api.Sense{
		{Key: -1}, {Key: 16}, {Key: 256}, {Key: math.MinInt}, {Key: math.MaxInt},
		{Asc: -1}, {Asc: 256}, {Asc: math.MinInt}, {Asc: math.MaxInt},
		{Ascq: -1}, {Ascq: 256}, {Ascq: math.MinInt}, {Ascq: math.MaxInt},
		{At: -2}, {At: maxPlace + 1}, {At: math.MinInt}, {At: math.MaxInt},
	} {
		if got, err := Bytes(x); got != "" || err != api.ErrSense {
			t.Errorf("Bytes(%+v): %x, %v", x, got, err)
		}
	}
}

// P16.1, P16.3: each part at both sides of its ends, with the other ones at theirs.
func TestParts(t *testing.T) {
	l := around()
	for _, key := range []int{-1, 0, 7, 15, 16} {
		for _, n := range l {
			for _, at := range []int{-2, -1, 0, maxPlace, maxPlace + 1} {
				holdBytes(t, api.Sense{Key: key, Asc: n, Ascq: 1, At: at})
				holdBytes(t, api.Sense{Key: key, Asc: 2, Ascq: n, At: at})
			}
			holdBytes(t, api.Sense{Key: key, Asc: 255, Ascq: 3, At: n})
		}
	}
	for _, n := range l {
		holdBytes(t, api.Sense{Key: n, Asc: 4, Ascq: 5, At: -1})
	}
}

// P16.1, P16.3: all keys with all of either number.
func TestAllNumbers(t *testing.T) {
	for key := -1; key <= 16; key++ {
		for n := -1; n <= 256; n++ {
			for _, at := range []int{-1, 0, maxPlace} {
				holdBytes(t, api.Sense{Key: key, Asc: n, Ascq: 255 - n, At: at})
			}
		}
	}
}

// bases are bytes of senses: with and without a place, with the least and the most of each part, and with parts that differ.
func bases() []string {
	var l []string
	for _, x := range []api.Sense{
		{At: -1}, {}, {Key: 5, Asc: 36, At: -1}, {Key: 15, Asc: 255, Ascq: 255, At: maxPlace},
		{Key: 15, Asc: 255, Ascq: 255, At: -1}, {Key: 14, Asc: 29, Ascq: 7, At: 0x01020304},
	} {
		s, _ := modelBytes(x)
		l = append(l, s)
	}
	return l
}

// P16.1: each byte replaced by all others, and each two by some.
func TestEveryByte(t *testing.T) {
	some := []byte{0x00, 0x01, 0x0a, 0x0f, 0x10, 0x70, 0x71, 0x80, 0xf0, 0xf1, 0xff}
	for _, s := range bases() {
		for i := range s {
			b := []byte(s)
			for v := range 256 {
				b[i] = byte(v)
				holdParse(t, string(b))
			}
			for k := range i {
				for _, v := range some {
					for _, w := range some {
						c := []byte(s)
						c[i], c[k] = v, w
						holdParse(t, string(c))
					}
				}
			}
		}
	}
}

// P16.1: each length but the right one.
func TestLengths(t *testing.T) {
	for _, s := range bases() {
		long := s + strings.Repeat("\x00", 40)
		for n := range long {
			holdParse(t, long[:n])
		}
		holdParse(t, s+s)
		holdParse(t, s+strings.Repeat("\xff", 1<<16))
	}
	for n := range 40 {
		holdParse(t, strings.Repeat("\x70", n))
		holdParse(t, strings.Repeat("\xff", n))
	}
}

// P16.1, P16.3: bytes as they come.
func TestRandomBytes(t *testing.T) {
	r := rand.New(rand.NewSource(16))
	senses := 0
	for range 200000 {
		b := []byte(bases()[r.Intn(len(bases()))])
		for range r.Intn(4) {
			b[r.Intn(len(b))] = byte(r.Intn(256))
		}
		holdParse(t, string(b))
		if _, err := Parse(string(b)); err == api.OK {
			senses++
		}
	}
	if senses < 1000 || senses > 199000 {
		t.Errorf("%d of these are a sense's bytes", senses)
	}
}

// P16.2: each row of the table, written out, both ways.
func TestRows(t *testing.T) {
	none := api.Sense{At: -1}
	for _, z := range []struct {
		o      api.Out
		status int
		x      api.Sense
	}{
		{api.Out{Code: api.Good}, 0, none},
		{api.Out{Code: api.Conflict}, 24, none},
		{api.Out{Code: api.Differ}, 2, api.Sense{Key: 14, Asc: 29}},
		{api.Out{Code: api.Differ, At: 3}, 2, api.Sense{Key: 14, Asc: 29, At: 3}},
		{api.Out{Code: api.Differ, At: maxPlace}, 2, api.Sense{Key: 14, Asc: 29, At: maxPlace}},
		{api.Out{Code: api.Beyond}, 2, api.Sense{Key: 5, Asc: 33, At: -1}},
		{api.Out{Code: api.Wrong}, 2, api.Sense{Key: 5, Asc: 36, At: -1}},
		{api.Out{Code: api.NoUnit}, 2, api.Sense{Key: 5, Asc: 37, At: -1}},
		{api.Out{Code: api.Broken}, 2, api.Sense{Key: 3, Asc: 12, At: -1}},
		{api.Out{Code: api.Told, Why: api.WhyPower}, 2, api.Sense{Key: 6, Asc: 41, At: -1}},
		{api.Out{Code: api.Told, Why: api.WhyPreempted}, 2, api.Sense{Key: 6, Asc: 42, Ascq: 5, At: -1}},
		{api.Out{Code: api.Told, Why: api.WhyReleased}, 2, api.Sense{Key: 6, Asc: 42, Ascq: 4, At: -1}},
		{api.Out{Code: api.Told, Why: api.WhyCleared}, 2, api.Sense{Key: 6, Asc: 42, Ascq: 3, At: -1}},
	} {
		if status, x := Of(z.o); status != z.status || x != z.x {
			t.Errorf("Of(%+v): %d, %+v", z.o, status, x)
		}
		if code, at, why, ok := Code(z.status, z.x); code != z.o.Code || at != z.o.At || why != z.o.Why || !ok {
			t.Errorf("Code(%d, %+v): %d, %d, %d, %v", z.status, z.x, code, at, why, ok)
		}
	}
}

// P16.2: what else an outcome has is not asked.
func TestRest(t *testing.T) {
	for code := range 10 {
		for at := -1; at < 5; at++ {
			for why := range 6 {
				o := api.Out{Code: code, At: at, Why: why}
				status, x := Of(o)
				o.Data, o.Regs, o.Gen, o.Hold, o.N = "data", []api.Reg{{Host: "a", Key: 1}}, 7, api.Hold{Type: 1, Host: "a"}, 9
				if s, y := Of(o); s != status || y != x {
					t.Errorf("Of(%+v): %d, %+v, not %d, %+v", o, s, y, status, x)
				}
			}
		}
	}
}

// P16.2: what is no outcome of the table is reported as Broken.
func TestNoOutcome(t *testing.T) {
	l := []api.Out{
		{}, {Code: -1}, {Code: 9}, {Code: math.MinInt}, {Code: math.MaxInt}, {Code: api.Good + 1<<32}, {Code: api.Told + 1<<8, Why: 1},
		{Code: api.Told}, {Code: api.Told, Why: -1}, {Code: api.Told, Why: 5}, {Code: api.Told, Why: math.MinInt}, {Code: api.Told, Why: math.MaxInt},
		{Code: api.Told, Why: api.WhyPower + 1<<32}, {Code: api.Told, Why: api.WhyPower + 1<<8},
		{Code: api.Differ, At: -1}, {Code: api.Differ, At: -2}, {Code: api.Differ, At: maxPlace + 1}, {Code: api.Differ, At: math.MinInt}, {Code: api.Differ, At: math.MaxInt},
	}
	for _, o := range l {
		if status, x := Of(o); status != 2 || x != broken {
			t.Errorf("Of(%+v): %d, %+v", o, status, x)
		}
	}
}

// P16.2, P16.4: all codes with all whys and places at both sides of each end.
func TestOutcomes(t *testing.T) {
	l := around()
	for _, code := range l {
		for _, at := range l {
			holdOf(t, api.Out{Code: code, At: at, Why: api.WhyCleared})
		}
	}
	for code := -1; code <= 10; code++ {
		for _, at := range l {
			for why := -1; why <= 6; why++ {
				holdOf(t, api.Out{Code: code, At: at, Why: why})
			}
		}
		for _, why := range l {
			holdOf(t, api.Out{Code: code, At: 1, Why: why})
		}
	}
}

// P16.2: what reports no outcome, each for one reason.
func TestNoReport(t *testing.T) {
	for _, z := range []struct {
		status int
		x      api.Sense
	}{
		{0, api.Sense{}}, {24, api.Sense{}}, {0, api.Sense{At: 1}}, {0, api.Sense{Key: 5, Asc: 36, At: -1}}, {0, broken}, {24, broken},
		{24, api.Sense{Ascq: 1, At: -1}}, {0, api.Sense{Key: 14, Asc: 29, At: 3}}, {24, api.Sense{Key: 14, Asc: 29, At: 3}},
		{2, api.Sense{At: -1}}, {1, api.Sense{At: -1}}, {-1, api.Sense{At: -1}}, {8, api.Sense{At: -1}}, {1 << 32, api.Sense{At: -1}},
		{3, broken}, {-2, broken}, {2 + 1<<32, broken}, {2, api.Sense{Key: 3, Asc: 12}}, {2, api.Sense{Key: 3, Asc: 12, At: -2}},
		{2, api.Sense{Key: 14, Asc: 29, At: -1}}, {2, api.Sense{Key: 14, Asc: 29, At: -2}}, {2, api.Sense{Key: 14, Asc: 29, At: maxPlace + 1}},
		{2, api.Sense{Key: 14, Asc: 29, Ascq: 1, At: 3}}, {2, api.Sense{Key: 14, Asc: 28, At: 3}}, {2, api.Sense{Key: 13, Asc: 29, At: 3}},
		{2, api.Sense{Key: 5, Asc: 36, At: 0}}, {2, api.Sense{Key: 5, Asc: 36, Ascq: 1, At: -1}}, {2, api.Sense{Key: 5, Asc: 35, At: -1}},
		{2, api.Sense{Key: 6, Asc: 42, At: -1}}, {2, api.Sense{Key: 6, Asc: 42, Ascq: 6, At: -1}}, {2, api.Sense{Key: 6, Asc: 41, Ascq: 5, At: -1}},
		{2, api.Sense{Key: 6, Asc: 42, Ascq: 5, At: 0}}, {2, api.Sense{Key: 6, Asc: 41, At: 0}},
	} {
		if code, at, why, ok := Code(z.status, z.x); code != 0 || at != 0 || why != 0 || ok {
			t.Errorf("Code(%d, %+v): %d, %d, %d, %v", z.status, z.x, code, at, why, ok)
		}
	}
}

// P16.2: all that could be reported with small numbers, and each part of what reports an outcome replaced.
func TestReports(t *testing.T) {
	l := around()
	for _, status := range []int{-1, 0, 1, 2, 3, 23, 24, 25} {
		for key := range 16 {
			for asc := range 50 {
				for ascq := range 7 {
					for at := -2; at < 2; at++ {
						holdCode(t, status, api.Sense{Key: key, Asc: asc, Ascq: ascq, At: at})
					}
				}
			}
		}
	}
	for code := 1; code <= 8; code++ {
		for why := 1; why <= 4; why++ {
			status, x := Of(api.Out{Code: code, At: 3, Why: why})
			for _, n := range l {
				holdCode(t, n, x)
				holdCode(t, status, api.Sense{Key: n, Asc: x.Asc, Ascq: x.Ascq, At: x.At})
				holdCode(t, status, api.Sense{Key: x.Key, Asc: n, Ascq: x.Ascq, At: x.At})
				holdCode(t, status, api.Sense{Key: x.Key, Asc: x.Asc, Ascq: n, At: x.At})
				holdCode(t, status, api.Sense{Key: x.Key, Asc: x.Asc, Ascq: x.Ascq, At: n})
			}
		}
	}
}
