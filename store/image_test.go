package store

import (
	"encoding/binary"
	"math/rand"
	"strings"
	"testing"

	"headgate/api"
	"headgate/dev"
	"headgate/journal"
)

// be is a number in four bytes.
func be(n int) string { return string(binary.BigEndian.AppendUint32(nil, uint32(n))) }

func sized(s string) string { return be(len(s)) + s }

// list is a text of extents, good or not: of each its Lba, Blocks and At.
func list(numbers ...int) string {
	s := be(len(numbers) / 3)
	for _, n := range numbers {
		s += be(n)
	}
	return s
}

// part is a unit in a base.
func part(unit, record, where string) string { return sized(unit) + sized(record) + sized(where) }

func unit(blocks int) string { return id(1) + be(blocks) }

// laid is a device on which a journal with this base and these records stands where a store has its own.
func laid(t *testing.T, sectors int, base string, records ...string) *dev.Dev {
	t.Helper()
	d := device(t, sectors)
	j, err := journal.Format(d, 0, 576, base)
	if err != api.OK {
		t.Fatal(err)
	}
	for _, r := range records {
		wantErr(t, "append", j.Append(r), api.OK)
	}
	return d
}

// plain is a base of a store with two units, of five blocks and one, on a device of 588 sectors.
func plain() string {
	return "HGST" + part(unit(5), "one", list(0, 2, 580, 4, 1, 577)) + part(unit(1), "", list(0, 1, 587))
}

func wantNone(t *testing.T, what string, d *dev.Dev) {
	t.Helper()
	if s, err := Open(d); s != nil || err != api.ErrImage {
		t.Errorf("%s: %v", what, err)
	}
}

// P8.1: what is no base of a store, though a journal holds it.
func TestBases(t *testing.T) {
	open(t, laid(t, 588, plain()))
	open(t, laid(t, 600, plain()))
	for sectors := 576; sectors < 588; sectors++ {
		wantNone(t, "too small for its units", laid(t, sectors, plain()))
		wantNone(t, "too small for its units", laid(t, sectors, "HGST"+part(unit(5), "", list())+part(unit(1), "", list())))
	}
	one := part(unit(1), "", list())
	open(t, laid(t, 8192, "HGST"+strings.Repeat(one, 8)))
	for _, base := range []string{
		"", "H", "HGST", "HGSU" + one, "HGJH" + one, one, "HGST" + strings.Repeat(one, 9), "HGST" + strings.Repeat(one, 1000),
		"HGST" + one + "\x00", "HGST" + one + be(0), "HGST" + one + sized(unit(1)), "HGST" + one + sized(unit(1)) + sized(""),
		"HGST" + part("", "", list()), "HGST" + part(id(1), "", list()), "HGST" + part(unit(1)+"x", "", list()), "HGST" + part(unit(1)[1:], "", list()),
		"HGST" + part(unit(0), "", list()), "HGST" + part(unit(4097), "", list()), "HGST" + part(unit(-1), "", list()), "HGST" + part(unit(1<<31), "", list()),
		"HGST" + part(unit(1), noise(1, 2049), list()), "HGST" + part(unit(1), "", ""), "HGST" + part(unit(1), "", list()+"x"),
		"HGST" + be(-1) + unit(1), "HGST" + be(1<<31) + unit(1), "HGST" + be(21) + unit(1),
	} {
		wantNone(t, "base", laid(t, 8192, base))
	}
	ends := map[int]bool{len("HGST") + len(part(unit(5), "one", list(0, 2, 580, 4, 1, 577))): true}
	for i := range plain() {
		d := laid(t, 588, plain()[:i])
		if !ends[i] {
			wantNone(t, "cut off", d)
		}
	}
}

// P8.1: extents of a base that a store can't have, or two of which share a sector.
func TestBaseExtents(t *testing.T) {
	open(t, laid(t, 588, "HGST"+part(unit(5), "", list(0, 5, 576))+part(unit(1), "", list(0, 1, 581))))
	for _, where := range [][2]string{
		{list(0, 6, 576), list()}, {list(4, 2, 576), list()}, {list(5, 1, 576), list()}, {list(), list(1, 1, 576)}, // beyond the unit
		{list(0, 1, 575), list()}, {list(0, 1, 0), list()}, {list(0, 5, 572), list()}, // in the journal
		{list(0, 1, 588), list()}, {list(0, 5, 584), list()}, {list(0, 1, 8191), list()}, // behind the device
		{list(0, 1, 8192), list()}, {list(0, 0, 576), list()}, {list(1, 1, 576, 0, 1, 577), list()}, {list(0, 1, 576, 1, 1, 577), list()}, {be(2) + list(0, 1, 576)[4:], list()}, // not good
		{list(0, 1, 576, 2, 1, 576), list()}, {list(0, 2, 576, 2, 2, 577), list()}, {list(0, 5, 576), list(0, 1, 580)}, {list(3, 1, 587), list(0, 1, 587)}, // one sector twice
	} {
		wantNone(t, "extents", laid(t, 588, "HGST"+part(unit(5), "", where[0])+part(unit(1), "", where[1])))
	}
}

// P8.1: records of a journal that are no changes, or come to what a store can't have.
func TestRecords(t *testing.T) {
	sound := []string{"\x00W" + list(0, 1, 576), "\x00W" + list(), "\x00C", "\x00C" + be(0) + be(5), "\x01R", "\x01Rone", "\x01W" + list(0, 1, 578), "\x00W" + list(2, 1, 583, 4, 1, 582)}
	if s := open(t, laid(t, 588, plain(), sound...)); s.Used(0) != 2 || s.Used(1) != 1 {
		t.Error(s.Used(0), s.Used(1))
	}
	for _, record := range []string{
		"", "\x00", "W", "\x00w", "\x00X", "\x00\x00", "\x02C", "\x08C", "\xffC", "\x02R",
		"\x00W", "\x00W\x00", "\x00W" + list(0, 1, 576) + "x", "\x00W" + list(0, 1, 576)[:15], "\x00W" + list(5, 1, 576), "\x00W" + list(4, 2, 576), "\x01W" + list(1, 1, 576), "\x00W" + list(1, 1, 576, 0, 1, 578),
		"\x00C\x00", "\x00C" + be(0), "\x00C" + be(0) + be(1) + "x", "\x00C" + be(0) + be(4097), "\x00C" + be(-1) + be(1), "\x00C" + be(1<<31) + be(1<<31), "\x00R" + noise(1, 2049),
		"\x00W" + list(0, 1, 575), "\x00W" + list(0, 1, 588), "\x00W" + list(0, 1, 577), "\x00W" + list(0, 1, 587), "\x01W" + list(0, 1, 581),
	} {
		wantNone(t, "record", laid(t, 588, plain(), record))
		wantNone(t, "record behind others", laid(t, 588, plain(), sound[2], sound[5], record))
		wantNone(t, "record ahead of others", laid(t, 588, plain(), record, sound[2], sound[5]))
	}
	// A sector may change hands, as long as the last state has it once.
	s := open(t, laid(t, 588, plain(), "\x01W"+list(0, 1, 577), "\x00C"+be(4)+be(1)))
	if s.Used(0) != 2 || s.Used(1) != 1 {
		t.Error(s.Used(0), s.Used(1))
	}
}

// P8.1: bytes of a base and of records that are changed at random: there is no store, or one that can be used.
func TestMixed(t *testing.T) {
	rnd := rand.New(rand.NewSource(8))
	turned := func(s string) string {
		b := []byte(s)
		for range rnd.Intn(3) {
			b[rnd.Intn(len(b))] = byte(rnd.Intn(256)) >> (rnd.Intn(2) * 5)
		}
		return string(b)
	}
	stores := 0
	for range 3000 {
		d := laid(t, 600, turned(plain()), turned("\x00W"+list(0, 1, 576, 2, 1, 583)), turned("\x00C"+be(0)+be(1)+be(3)+be(2)))
		s, err := Open(d)
		if err == api.ErrImage && s == nil {
			continue
		}
		stores++
		wantErr(t, "Open", err, api.OK)
		for lun, u := range s.Units() {
			before, err := s.Read(lun, 1, u.Blocks-1)
			wantErr(t, "read", err, api.OK)
			wantErr(t, "write", s.Write(lun, 0, block(1)), api.OK)
			if got, err := s.Read(lun, 0, u.Blocks); got != block(1)+before || err != api.OK {
				t.Error("another block is written", err)
			}
			wantErr(t, "clear", s.Clear(lun, []api.Range{{Blocks: u.Blocks}}), api.OK)
			if s.Used(lun) != 0 {
				t.Error("used", s.Used(lun))
			}
		}
		wantErr(t, "flush", s.Flush(), api.OK)
	}
	if stores < 100 || stores > 2900 {
		t.Error("too few of a kind", stores)
	}
}
