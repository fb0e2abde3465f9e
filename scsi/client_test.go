package scsi

import (
	"fmt"
	"math"
	"math/rand"
	"reflect"
	"slices"
	"strings"
	"testing"
	"unsafe"

	"headgate/api"
	"headgate/exec"
	"headgate/prout"
	"headgate/sense"
)

// showCmd is a command without its data.
func showCmd(c api.Cmd) string {
	data := len(c.Data)
	c.Data = ""
	return fmt.Sprintf("%+v with %d bytes", c, data)
}

func showOut(o api.Out) string {
	return fmt.Sprintf("{code %d, %d bytes, at %d, why %d, regs %v, gen %d, hold %v, n %d}", o.Code, len(o.Data), o.At, o.Why, o.Regs, o.Gen, o.Hold, o.N)
}

// sameOut takes a nil list for an empty one.
func sameOut(x, y api.Out) bool {
	sameRegs := slices.Equal(x.Regs, y.Regs)
	x.Regs, y.Regs = nil, nil
	return sameRegs && reflect.DeepEqual(x, y)
}

// holdEncode holds Encode against the chapter's words.
func holdEncode(t *testing.T, c api.Cmd) {
	t.Helper()
	wantS, wantData, ok := modelEncode(c)
	s, data, err := Encode(c)
	if !ok {
		if s != "" || data != "" || err != api.ErrCmd {
			t.Fatalf("%s: %x, %d bytes, %v, though it has no block", showCmd(c), s, len(data), err)
		}
		if o, ok := Decode(c, good("")); ok || !sameOut(o, api.Out{}) {
			t.Fatalf("%s has no block, but replies", showCmd(c))
		}
		return
	}
	if s != wantS || data != wantData || err != api.OK {
		t.Fatalf("%s: %x, %d bytes, %v, want %x, %d bytes", showCmd(c), s, len(data), err, wantS, len(wantData))
	}
}

// holdDecode holds Decode against the chapter's words, and tells whether there is an outcome.
func holdDecode(t *testing.T, c api.Cmd, r api.Reply) bool {
	t.Helper()
	meant, ok := modelDecode(c, r)
	if !ok {
		meant = api.Out{}
	}
	if got, isReply := Decode(c, r); isReply != ok || !sameOut(got, meant) {
		t.Fatalf("%s, %s: %s, %v, want %s, %v", showCmd(c), showReply(r), showOut(got), isReply, showOut(meant), ok)
	}
	return ok
}

const (
	key1 = 0x0123456789abcdef
	key2 = 0xfedcba9876543210
)

// commands are some of each operation that have blocks.
func commands() []api.Cmd {
	return []api.Cmd{
		{Op: api.OpReady}, {Op: api.OpSize}, {Op: api.OpFlush}, {Op: api.OpKeys}, {Op: api.OpHolder},
		{Op: api.OpRead}, {Op: api.OpRead, Lba: 3, Blocks: 2},
		{Op: api.OpWrite}, {Op: api.OpWrite, Lba: 2, Data: blocks(1, 2)}, {Op: api.OpWrite, Data: blocks(1, 1), Fua: true},
		{Op: api.OpZero}, {Op: api.OpZero, Lba: 1, Blocks: 3},
		{Op: api.OpUnmap}, {Op: api.OpUnmap, Ranges: []api.Range{{Lba: 1, Blocks: 2}, {Lba: 0, Blocks: 1}}},
		{Op: api.OpCompare}, {Op: api.OpCompare, Lba: 2, Data: blocks(2, 2)},
		{Op: api.OpRegister, Key: key1, NewKey: key2, Aptpl: api.AptplOff},
		{Op: api.OpRegister, NewKey: key2, Aptpl: api.AptplOn},
		{Op: api.OpRegister, NewKey: key2, Ignore: true, Aptpl: api.AptplOn},
		{Op: api.OpReserve, Key: key1, Type: api.WriteExclusive}, {Op: api.OpReserve, Type: api.All},
		{Op: api.OpRelease, Key: key1, Type: api.Exclusive}, {Op: api.OpClear, Key: key1},
		{Op: api.OpPreempt, Key: key1, Other: key2, Type: api.WriteAll},
	}
}

// P19.3: each block and its data, written out.
func TestEncodeWritten(t *testing.T) {
	long := slices.Repeat([]api.Range{{Lba: 1<<31 - 1, Blocks: 1<<32 - 1}}, 16)
	for _, z := range []struct {
		c       api.Cmd
		s, data string
	}{
		{api.Cmd{Op: api.OpReady}, ready6, ""}, {api.Cmd{Op: api.OpSize}, capacity10, ""}, {api.Cmd{Op: api.OpFlush}, flush10, ""},
		{api.Cmd{Op: api.OpKeys}, "\x5e\x00\x00\x00\x00\x00\x00\xff\xff\x00", ""},
		{api.Cmd{Op: api.OpHolder}, "\x5e\x01\x00\x00\x00\x00\x00\xff\xff\x00", ""},
		{api.Cmd{Op: api.OpRead, Lba: 0x12345678, Blocks: 64}, "\x88\x00\x00\x00\x00\x00\x12\x34\x56\x78\x00\x00\x00\x40\x00\x00", ""},
		{api.Cmd{Op: api.OpRead, Lba: 1<<31 - 1}, read16(1<<31-1, 0), ""},
		{api.Cmd{Op: api.OpWrite, Lba: 0x12345678, Data: blocks(1, 64)}, "\x8a\x00\x00\x00\x00\x00\x12\x34\x56\x78\x00\x00\x00\x40\x00\x00", blocks(1, 64)},
		{api.Cmd{Op: api.OpWrite, Data: blocks(1, 1), Fua: true}, "\x8a\x08" + zeros(8) + "\x00\x00\x00\x01\x00\x00", blocks(1, 1)},
		{api.Cmd{Op: api.OpWrite, Lba: 7}, write16(7, 0), ""},
		{api.Cmd{Op: api.OpZero, Lba: 0x12345678, Blocks: 0x23456789}, "\x93\x01\x00\x00\x00\x00\x12\x34\x56\x78\x23\x45\x67\x89\x00\x00", ""},
		{api.Cmd{Op: api.OpZero, Blocks: 1<<31 - 1}, zero16(0, 1<<31-1), ""},
		{api.Cmd{Op: api.OpCompare, Lba: 0x12345678, Data: blocks(1, 64)}, "\x89\x00\x00\x00\x00\x00\x12\x34\x56\x78\x00\x00\x00\x20\x00\x00", blocks(1, 64)},
		{api.Cmd{Op: api.OpCompare, Lba: 7}, compare16(7, 0), ""},
		{api.Cmd{Op: api.OpUnmap}, unmap10(8), ranges()},
		{api.Cmd{Op: api.OpUnmap, Ranges: []api.Range{}}, unmap10(8), "\x00\x06\x00\x00\x00\x00\x00\x00"},
		{api.Cmd{Op: api.OpUnmap, Ranges: long}, unmap10(264), ranges(long...)},
		{api.Cmd{Op: api.OpRegister, Key: key1, NewKey: key2, Aptpl: api.AptplOff}, change10(0, 0), keysList(key1, key2, false)},
		{api.Cmd{Op: api.OpRegister, Key: key1, Aptpl: api.AptplOn}, change10(0, 0), keysList(key1, 0, true)},
		{api.Cmd{Op: api.OpRegister, NewKey: key2, Ignore: true, Aptpl: api.AptplOff}, change10(6, 0), keysList(0, key2, false)},
		{api.Cmd{Op: api.OpReserve, Key: key1, Type: api.WriteExclusive}, change10(1, 1), keysList(key1, 0, false)},
		{api.Cmd{Op: api.OpReserve, Key: key1, Type: api.Exclusive}, change10(1, 3), keysList(key1, 0, false)},
		{api.Cmd{Op: api.OpRelease, Key: key1, Type: api.WriteRegistrants}, change10(2, 5), keysList(key1, 0, false)},
		{api.Cmd{Op: api.OpRelease, Key: key1, Type: api.Registrants}, change10(2, 6), keysList(key1, 0, false)},
		{api.Cmd{Op: api.OpClear, Key: key1}, change10(3, 0), keysList(key1, 0, false)},
		{api.Cmd{Op: api.OpPreempt, Key: key1, Other: key2, Type: api.WriteAll}, change10(4, 7), keysList(key1, key2, false)},
		{api.Cmd{Op: api.OpPreempt, Type: api.All}, change10(4, 8), keysList(0, 0, false)},
	} {
		if s, data, err := Encode(z.c); s != z.s || data != z.data || err != api.OK {
			t.Errorf("%s: %x, %d bytes, %v", showCmd(z.c), s, len(data), err)
		}
		holdEncode(t, z.c)
	}
}

// P19.3: Host and Lun count for nothing.
func TestEncodeIgnores(t *testing.T) {
	for _, c := range commands() {
		s, data, _ := Encode(c)
		for _, c.Lun = range []int{0, 1, 8, -1, math.MaxInt} {
			for _, c.Host = range []string{"", "h", "A", "\x00"} {
				if again, same, err := Encode(c); again != s || same != data || err != api.OK {
					t.Errorf("%s: %x, %v", showCmd(c), again, err)
				}
				holdDecode(t, c, wrong)
			}
		}
	}
}

// parts change a command in one part each.
func parts() []func(c *api.Cmd) {
	return []func(c *api.Cmd){
		func(c *api.Cmd) { c.Lba = 1 },
		func(c *api.Cmd) { c.Lba = -1 },
		func(c *api.Cmd) { c.Lba = math.MinInt },
		func(c *api.Cmd) { c.Lba = 1 << 31 },
		func(c *api.Cmd) { c.Lba = 1 << 32 },
		func(c *api.Cmd) { c.Lba += 1 << 32 },
		func(c *api.Cmd) { c.Blocks++ },
		func(c *api.Cmd) { c.Blocks = -1 },
		func(c *api.Cmd) { c.Blocks = 64 },
		func(c *api.Cmd) { c.Blocks = 65 },
		func(c *api.Cmd) { c.Blocks = 4097 },
		func(c *api.Cmd) { c.Blocks = 1 << 31 },
		func(c *api.Cmd) { c.Blocks += 1 << 32 },
		func(c *api.Cmd) { c.Blocks = math.MinInt },
		func(c *api.Cmd) { c.Data += "x" },
		func(c *api.Cmd) { c.Data += noise(1, 511) },
		func(c *api.Cmd) { c.Data += blocks(1, 1) },
		func(c *api.Cmd) { c.Data = blocks(1, 3) },
		func(c *api.Cmd) { c.Data = blocks(1, 65) },
		func(c *api.Cmd) { c.Data = blocks(1, 66) },
		func(c *api.Cmd) { c.Data = blocks(1, 64) + "x" },
		func(c *api.Cmd) { c.Data = blocks(1, 256*2+2) },
		func(c *api.Cmd) { c.Fua = !c.Fua },
		func(c *api.Cmd) { c.Ranges = []api.Range{{}} },
		func(c *api.Cmd) { c.Ranges = make([]api.Range, 16) },
		func(c *api.Cmd) { c.Ranges = make([]api.Range, 17) },
		func(c *api.Cmd) { c.Ranges = []api.Range{{Lba: -1}} },
		func(c *api.Cmd) { c.Ranges = []api.Range{{Lba: 1 << 31}} },
		func(c *api.Cmd) { c.Ranges = []api.Range{{Blocks: -1}} },
		func(c *api.Cmd) { c.Ranges = []api.Range{{Blocks: 1 << 32}} },
		func(c *api.Cmd) { c.Ranges = make([]api.Range, 0, 9) },
		func(c *api.Cmd) { c.Key++ },
		func(c *api.Cmd) { c.Key = 0 },
		func(c *api.Cmd) { c.NewKey++ },
		func(c *api.Cmd) { c.Other++ },
		func(c *api.Cmd) { c.Type = 0 },
		func(c *api.Cmd) { c.Type = 1 },
		func(c *api.Cmd) { c.Type = 7 },
		func(c *api.Cmd) { c.Type = 8 },
		func(c *api.Cmd) { c.Type = -1 },
		func(c *api.Cmd) { c.Ignore = !c.Ignore },
		func(c *api.Cmd) { c.Aptpl = 0 },
		func(c *api.Cmd) { c.Aptpl = 1 },
		func(c *api.Cmd) { c.Aptpl = 2 },
		func(c *api.Cmd) { c.Aptpl = 3 },
		func(c *api.Cmd) { c.Op = 0 },
		func(c *api.Cmd) { c.Op = 16 },
		func(c *api.Cmd) { c.Op = -c.Op },
		func(c *api.Cmd) { c.Op += 256 },
	}
}

// P19.3, P19.4: a command with anything that its operation doesn't have, or with numbers beside the edges.
func TestEncodeParts(t *testing.T) {
	none := 0
	for _, one := range parts() {
		for _, c := range commands() {
			one(&c)
			holdEncode(t, c)
			if _, _, ok := modelEncode(c); !ok {
				none++
			}
			for _, two := range parts() {
				c := c
				two(&c)
				holdEncode(t, c)
			}
		}
	}
	if none < 500 {
		t.Error(none)
	}
}

// P19.3: each number of blocks, bytes and ranges.
func TestEncodeCounts(t *testing.T) {
	for n := -2; n <= 140; n++ {
		for _, lba := range []int{0, 5, 1<<31 - 1} {
			holdEncode(t, api.Cmd{Op: api.OpRead, Lba: lba, Blocks: n})
			holdEncode(t, api.Cmd{Op: api.OpZero, Lba: lba, Blocks: n})
			if n >= 0 {
				holdEncode(t, api.Cmd{Op: api.OpWrite, Lba: lba, Data: blocks(n, n)})
				holdEncode(t, api.Cmd{Op: api.OpCompare, Lba: lba, Data: blocks(n, n)})
				holdEncode(t, api.Cmd{Op: api.OpUnmap, Ranges: slices.Repeat([]api.Range{{Lba: lba, Blocks: n}}, n)})
			}
		}
	}
	for n := range 2100 {
		holdEncode(t, api.Cmd{Op: api.OpWrite, Data: noise(n, n)})
		holdEncode(t, api.Cmd{Op: api.OpCompare, Data: noise(n, n)})
	}
	for op := -3; op <= 300; op++ {
		holdEncode(t, api.Cmd{Op: op})
		holdEncode(t, api.Cmd{Op: op, Type: 1, Key: 1})
	}
}

// outcomes are all that a reply can tell without data.
func outcomes() []api.Out {
	l := []api.Out{{Code: api.Conflict}, {Code: api.Beyond}, {Code: api.Wrong}, {Code: api.NoUnit}, {Code: api.Broken}}
	for _, at := range []int{0, 1, 511, 16383, 1 << 31, 1<<32 - 1} {
		l = append(l, api.Out{Code: api.Differ, At: at})
	}
	for why := api.WhyPower; why <= api.WhyCleared; why++ {
		l = append(l, api.Out{Code: api.Told, Why: why})
	}
	return l
}

// P19.4: the outcomes without data, and none beside them.
func TestDecodeOutcomes(t *testing.T) {
	for _, c := range commands() {
		for _, o := range outcomes() {
			status, x := sense.Of(o)
			r := api.Reply{Status: status, Sense: x}
			if got, ok := Decode(c, r); !ok || !sameOut(got, o) {
				t.Errorf("%s: %s, want %s", showCmd(c), showOut(got), showOut(o))
			}
			for _, r.Data = range []string{"", "x", "\x00", zeros(8), blocks(1, 2), prout.Keys(1, nil)} {
				if holdDecode(t, c, r) != (r.Data == "") {
					t.Error(showReply(r))
				}
			}
		}
	}
}

// P19.4: a status or a sense that no outcome has.
func TestDecodeNoOutcome(t *testing.T) {
	for _, c := range commands() {
		for _, data := range []string{"", blocks(1, 2), zeros(8)} {
			for _, status := range []int{1, 2, 3, 8, 23, 25, -1, 256, 256 + 2, 256 + 24, math.MaxInt, math.MinInt} {
				r := good(data)
				r.Status = status
				if holdDecode(t, c, r) {
					t.Error(showCmd(c), showReply(r))
				}
			}
			for _, x := range []api.Sense{{}, {At: 1}, {Key: 5, Asc: 36, At: -1}, {Key: 5, At: -1}, {Asc: 1, At: -1}, {Ascq: 1, At: -1}, {At: -2}} {
				for _, status := range []int{0, 24} {
					if r := (api.Reply{Status: status, Sense: x, Data: data}); holdDecode(t, c, r) {
						t.Error(showCmd(c), showReply(r))
					}
				}
			}
			for _, x := range []api.Sense{{Key: 5, Asc: 36}, {Key: 5, Asc: 36, Ascq: 1, At: -1}, {Key: 14, Asc: 29, At: -1}, {Key: 14, Asc: 29, At: 1 << 32}, {Key: 6, Asc: 42, Ascq: 6, At: -1}, {Key: 6, Asc: 42, At: -1}, {Key: 6, Asc: 41, Ascq: 1, At: -1}} {
				if r := (api.Reply{Status: 2, Sense: x, Data: data}); holdDecode(t, c, r) {
					t.Error(showCmd(c), showReply(r))
				}
			}
		}
	}
}

// P19.4: success, with data of all kinds for all commands.
func TestDecodeGood(t *testing.T) {
	texts := []string{
		"", "\x00", "x", zeros(7), zeros(8), zeros(9), zeros(16), zeros(24), zeros(512), zeros(1024), blocks(1, 1), blocks(1, 2), blocks(1, 2) + "x", blocks(1, 2)[1:], blocks(1, 3),
		"\x00\x00\x00\x13\x00\x00\x02\x00", "\xff\xff\xff\xfe\x00\x00\x02\x00", "\xff\xff\xff\xff\x00\x00\x02\x00", "\x00\x00\x00\x00\x00\x00\x02\x00", "\x00\x00\x00\x13\x00\x00\x02\x01",
		"\x00\x00\x00\x13\x00\x00\x02", "\x00\x00\x00\x13\x00\x00\x02\x00\x00", "\x00\x00\x00\x13\x00\x00\x04\x00",
		"\x00\x00\x00\x01\x00\x00\x00\x00", "\xff\xff\xff\xff\x00\x00\x00\x00", "\x00\x00\x00\x01\x00\x00\x00\x08", "\x00\x00\x00\x01\x00\x00\x00\x08" + eb(key1, 8),
		"\x00\x00\x00\x01\x00\x00\x00\x10" + eb(key1, 8), "\x00\x00\x00\x01\x00\x00\x00\x10" + eb(key1, 8) + eb(key2, 8), "\x00\x00\x00\x01\x00\x00\x00\x11" + eb(key1, 8) + eb(key2, 8) + "x",
	}
	for n := range 20 {
		texts = append(texts, "\x01\x02\x03\x04"+eb(uint64(8*n), 4)+noise(n, 8*n))
	}
	for number := range 256 {
		texts = append(texts, "\x01\x02\x03\x04\x00\x00\x00\x10"+eb(key2, 8)+zeros(5)+eb(uint64(number), 1)+zeros(2))
	}
	replies := 0
	for _, c := range commands() {
		for _, s := range texts {
			if holdDecode(t, c, good(s)) {
				replies++
			}
		}
	}
	if replies < 60 {
		t.Error(replies)
	}
}

// P19.4: what is told, written out.
func TestDecodeWritten(t *testing.T) {
	for i, z := range []struct {
		c api.Cmd
		s string
		o api.Out
	}{
		{api.Cmd{Op: api.OpReady}, "", api.Out{}},
		{api.Cmd{Op: api.OpRead, Lba: 9, Blocks: 2}, blocks(4, 2), api.Out{Data: blocks(4, 2)}},
		{api.Cmd{Op: api.OpRead}, "", api.Out{}},
		{api.Cmd{Op: api.OpSize}, "\x00\x00\x00\x13\x00\x00\x02\x00", api.Out{N: 20}},
		{api.Cmd{Op: api.OpSize}, "\x12\x34\x56\x78\x00\x00\x02\x00", api.Out{N: 0x12345679}},
		{api.Cmd{Op: api.OpSize}, "\xff\xff\xff\xfe\x00\x00\x02\x00", api.Out{N: 1<<32 - 1}},
		{api.Cmd{Op: api.OpKeys}, "\x12\x34\x56\x78\x00\x00\x00\x00", api.Out{Gen: 0x12345678}},
		{api.Cmd{Op: api.OpKeys}, "\xff\xff\xff\xff\x00\x00\x00\x10" + eb(key2, 8) + eb(key1, 8), api.Out{Gen: math.MaxUint32, Regs: []api.Reg{{Key: key2}, {Key: key1}}}},
		{api.Cmd{Op: api.OpHolder}, "\x12\x34\x56\x78\x00\x00\x00\x00", api.Out{Gen: 0x12345678}},
		{api.Cmd{Op: api.OpHolder}, "\x12\x34\x56\x78\x00\x00\x00\x10" + eb(key2, 8) + zeros(5) + "\x01\x00\x00", api.Out{Gen: 0x12345678, Hold: api.Hold{Type: api.WriteExclusive}}},
		{api.Cmd{Op: api.OpHolder}, "\x00\x00\x00\x00\x00\x00\x00\x10" + eb(1, 8) + zeros(5) + "\x03\x00\x00", api.Out{Hold: api.Hold{Type: api.Exclusive}}},
		{api.Cmd{Op: api.OpHolder}, "\x00\x00\x00\x00\x00\x00\x00\x10" + eb(1, 8) + zeros(5) + "\x05\x00\x00", api.Out{Hold: api.Hold{Type: api.WriteRegistrants}}},
		{api.Cmd{Op: api.OpHolder}, "\x00\x00\x00\x00\x00\x00\x00\x10" + eb(1, 8) + zeros(5) + "\x06\x00\x00", api.Out{Hold: api.Hold{Type: api.Registrants}}},
		{api.Cmd{Op: api.OpHolder}, "\x00\x00\x00\x00\x00\x00\x00\x10" + zeros(8) + zeros(5) + "\x07\x00\x00", api.Out{Hold: api.Hold{Type: api.WriteAll}}},
		{api.Cmd{Op: api.OpHolder}, "\x00\x00\x00\x00\x00\x00\x00\x10" + zeros(8) + zeros(5) + "\x08\x00\x00", api.Out{Hold: api.Hold{Type: api.All}}},
	} {
		z.o.Code = api.Good
		if got, ok := Decode(z.c, good(z.s)); !ok || !sameOut(got, z.o) {
			t.Errorf("%d: %s, %v, want %s", i, showOut(got), ok, showOut(z.o))
		}
		for _, s := range []string{z.s + "x", z.s + "\x00", "\x00" + z.s, z.s + zeros(512), cut(z.s, max(len(z.s)-1, 0))} {
			if got, ok := Decode(z.c, good(s)); s != z.s && (ok || !sameOut(got, api.Out{})) {
				t.Errorf("%d: %s of %d bytes", i, showOut(got), len(s))
			}
		}
	}
}

// P19.4: each byte of what is told replaced by all others.
func TestDecodeEveryByte(t *testing.T) {
	l := []api.Reg{{Host: "a", Key: key1}, {Host: "b", Key: key2}}
	for _, s := range []string{
		"\x00\x00\x00\x13\x00\x00\x02\x00", prout.Keys(9, nil), prout.Keys(9, l), prout.Keys(9, l[:1]),
		prout.Holder(9, api.Hold{}, l), prout.Holder(9, api.Hold{Type: 2, Host: "b"}, l), prout.Holder(9, api.Hold{Type: 6}, l),
	} {
		for _, op := range []int{api.OpSize, api.OpKeys, api.OpHolder} {
			for i := range s {
				b := []byte(s)
				for v := range 256 {
					b[i] = byte(v)
					holdDecode(t, api.Cmd{Op: op}, good(string(b)))
				}
			}
			for n := range s {
				holdDecode(t, api.Cmd{Op: op}, good(s[:n]))
			}
		}
	}
}

// meantOut is what P19.5 says of an outcome of the executor: without hosts, and of a holder without the registrants.
func meantOut(c api.Cmd, o api.Out) api.Out {
	if c.Op == api.OpHolder {
		o.Regs = nil
	}
	for i := range o.Regs {
		o.Regs[i].Host = ""
	}
	o.Hold.Host = ""
	return o
}

// anyCmd is a command that has a block, most often.
func anyCmd(r *rand.Rand, y *exec.Exec, host string, lun, size int) api.Cmd {
	c := api.Cmd{Op: 1 + r.Intn(15), Host: host, Lun: lun}
	if r.Intn(4) == 0 {
		c.Op = []int{api.OpCompare, api.OpWrite, api.OpRegister, api.OpUnmap}[r.Intn(4)]
	}
	n := r.Intn(min(size, []int{2, 70}[r.Intn(2)]) + 1)
	lba := anyNumber(r, size-n)
	var key uint64
	for _, reg := range y.Table(lun).Regs {
		if reg.Host == host {
			key = reg.Key
		}
	}
	if r.Intn(8) == 0 {
		key = uint64(r.Intn(4))
	}
	switch c.Op {
	case api.OpRead, api.OpZero:
		c.Lba, c.Blocks = lba, anyNumber(r, n)
	case api.OpWrite:
		c.Lba, c.Data, c.Fua = lba, blocks(r.Int(), n), r.Intn(9) == 0
	case api.OpCompare:
		there, _ := y.Cache().Read(lun, max(0, min(lba, size-n)), n)
		c.Lba, c.Data = lba, there+blocks(r.Intn(3), n)
		if r.Intn(4) == 0 {
			c.Data = blocks(1, 2*n)
		}
	case api.OpUnmap:
		for range r.Intn(5) {
			c.Ranges = append(c.Ranges, api.Range{Lba: r.Intn(size + 1), Blocks: r.Intn(2)})
		}
	case api.OpRegister:
		c.NewKey, c.Ignore, c.Aptpl = uint64(r.Intn(4)), r.Intn(3) == 0, 1+r.Intn(20)/19
		if !c.Ignore {
			c.Key = key
		}
	case api.OpReserve, api.OpRelease, api.OpPreempt:
		c.Key, c.Type = key, 1+r.Intn(6)
		if hold := y.Table(lun).Hold.Type; hold > 0 && r.Intn(2) == 0 {
			c.Type = hold
		}
		if c.Op == api.OpPreempt {
			c.Other = uint64(r.Intn(4))
		}
	case api.OpClear:
		if r.Intn(4) == 0 {
			c.Key = key
		}
	}
	return c
}

// P19.5: what comes back through blocks and replies is what the executor answers; P19.4 on replies that were changed.
func TestThere(t *testing.T) {
	codes := map[int]int{}
	for seed := range 60 {
		r := rand.New(rand.NewSource(int64(seed)))
		sizes := [][]int{{1}, {5, 2}, {70}, {30, 1, 64}}[seed%4]
		most := []int{0, 5, 256}[seed%3]
		x, d := made(t, most, sizes...)
		y, twin := made(t, most, sizes...)
		for range 300 {
			host := []string{"a", "b", "c"}[r.Intn(3)]
			if r.Intn(40) == 0 {
				host = []string{"", "A"}[r.Intn(2)]
			}
			lun := r.Intn(len(sizes))
			c := anyCmd(r, y, host, lun, sizes[lun])
			if r.Intn(40) == 0 && host > "Z" {
				c.Lun = anyNumber(r, 8)
			}
			holdEncode(t, c)
			s, data, err := Encode(c)
			if err != api.OK {
				continue
			}
			if r.Intn(300) == 0 {
				n := r.Intn(50)
				d.Arm(n)
				twin.Arm(n)
			}
			reply := Do(x, c.Host, c.Lun, s, data)
			meant := meantOut(c, y.Do(c))
			if got, ok := Decode(c, reply); !ok || !sameOut(got, meant) {
				t.Fatalf("%s: %s, %v, want %s", showCmd(c), showOut(got), ok, showOut(meant))
			}
			codes[meant.Code]++
			if _, in := Need(s); len(reply.Data) > in {
				t.Fatalf("%s: %d bytes", showCmd(c), len(reply.Data))
			}
			for _, change := range []func(p *api.Reply){
				func(p *api.Reply) { p.Data += "x" },
				func(p *api.Reply) { p.Data = cut(p.Data, r.Intn(30)) },
				func(p *api.Reply) { p.Status = 1 },
				func(p *api.Reply) { p.Status += 256 },
				func(p *api.Reply) { p.Sense.At++ },
				func(p *api.Reply) { p.Sense.Ascq++ },
			} {
				changed := reply
				change(&changed)
				holdDecode(t, c, changed)
			}
			forget(x, y)
		}
		finish(t, x, y, d, twin)
	}
	for _, code := range []int{api.Good, api.Conflict, api.Differ, api.Beyond, api.Wrong, api.NoUnit, api.Broken} {
		if codes[code] < 50 {
			t.Errorf("code %d: %d times", code, codes[code])
		}
	}
}

// forget takes away all that is pending at both, as P19.5 asks.
func forget(l ...*exec.Exec) {
	for _, x := range l {
		for lun := range api.MaxLuns {
			for _, host := range x.Units().Hosts(lun) {
				x.Units().Forget(host)
			}
		}
	}
}

// Rules 1 and 6: any texts and numbers.
func TestAnything(t *testing.T) {
	x := plain(t, 4, 2)
	r := rand.New(rand.NewSource(6))
	numbers := []int{math.MinInt, -1, 0, 1, 8, 64, 1 << 31, 1 << 32, math.MaxInt}
	any := func() int { return numbers[r.Intn(len(numbers))] }
	for range 50000 {
		s, data := noise(r.Int(), r.Intn(20)), noise(r.Int(), r.Intn(40))
		Do(x, []string{"a", "", "\x00", "A"}[r.Intn(4)], any(), s, data)
		c := api.Cmd{Op: r.Intn(18), Lba: any(), Blocks: any(), Type: any(), Aptpl: any(), Lun: any(), Ranges: []api.Range{{Lba: any(), Blocks: any()}}, Key: uint64(any())}
		if r.Intn(2) == 0 {
			c.Ranges = nil
		}
		holdEncode(t, c)
		reply := api.Reply{Status: any(), Sense: api.Sense{Key: any(), Asc: any(), Ascq: any(), At: any()}, Data: data}
		holdDecode(t, c, reply)
		holdDecode(t, api.Cmd{Op: c.Op}, reply)
	}
}

// lent is a text that changes with b, as no text may that is kept or handed on.
func lent(b []byte) string { return unsafe.String(&b[0], len(b)) }

// Rule 2: what is answered is in memory of its own.
func TestOwnMemory(t *testing.T) {
	b := []byte(blocks(1, 2))
	for _, c := range []api.Cmd{{Op: api.OpWrite, Data: lent(b)}, {Op: api.OpCompare, Data: lent(b)}} {
		_, data, _ := Encode(c)
		before := strings.Clone(data)
		b[7]++
		if data != before {
			t.Error("the data are those of the command", c.Op)
		}
	}
	o, _ := Decode(api.Cmd{Op: api.OpRead, Blocks: 2}, good(lent(b)))
	before := strings.Clone(o.Data)
	b[7]++
	if o.Data != before {
		t.Error("the data are those of the reply")
	}
	x := plain(t, 4)
	first, second := Do(x, "h", 0, read10(0, 2), "").Data, Do(x, "h", 0, read10(0, 2), "").Data
	if unsafe.StringData(first) == unsafe.StringData(second) {
		t.Error("two replies share memory")
	}
}

// Rule 2: arguments stay as they are, with what lies behind them, and what was made of them doesn't change with them.
func TestArguments(t *testing.T) {
	l := []api.Range{{Lba: 1, Blocks: 2}, {Lba: 3, Blocks: 4}, {Lba: 5, Blocks: 6}}
	_, data, _ := Encode(api.Cmd{Op: api.OpUnmap, Ranges: l[:2]})
	if !slices.Equal(l, []api.Range{{Lba: 1, Blocks: 2}, {Lba: 3, Blocks: 4}, {Lba: 5, Blocks: 6}}) || data != ranges(l[:2]...) {
		t.Error(l)
	}
	x := plain(t, 4)
	host, s, text := []byte("abc"), []byte(write10(1, 1)), []byte(blocks(5, 1))
	want(t, "write", Do(x, lent(host), 0, lent(s), lent(text)), good(""))
	register(t, x, 0, lent(host), 7)
	clear(s)
	clear(text)
	copy(host, "xyz")
	want(t, "read", Do(x, "h", 0, read10(1, 1), ""), good(blocks(5, 1)))
	if table := x.Table(0); table.Regs[0].Host != "abc" {
		t.Error(table)
	}
}
