package cdb

import "headgate/fields"

// place is where a number stands in a block: the index of its first byte, and how many bytes it has (0: it is not there).
type place struct{ at, n int }

// form is the form of the blocks with one first byte.
type form struct {
	first, size       int
	lba, blocks, want place
	narrow            bool   // Lba and the number of blocks are less than narrowEnd
	must, fua, page   byte   // bits of byte 1: set in all blocks; set for Fua; set if byte 2 is a page that is requested
	actions, typed    uint64 // the actions in byte 1, and those with a type in byte 2: bit n stands for action n
	empty             byte   // bits of byte 2 that must be 0
	list              int    // what Want must be (0: anything)
}

// forms are all forms of blocks.
var forms = [...]form{
	{first: 0x00, size: 6},
	{first: 0x12, size: 6, page: 1 << 0, want: place{3, 2}},
	{first: 0x25, size: 10},
	{first: 0x28, size: 10, lba: place{2, 4}, blocks: place{7, 2}},
	{first: 0x88, size: 16, lba: place{2, 8}, blocks: place{10, 4}, narrow: true},
	{first: 0x2a, size: 10, lba: place{2, 4}, blocks: place{7, 2}, fua: 1 << 3},
	{first: 0x8a, size: 16, lba: place{2, 8}, blocks: place{10, 4}, narrow: true, fua: 1 << 3},
	{first: 0x35, size: 10},
	{first: 0x42, size: 10, want: place{7, 2}},
	{first: 0x89, size: 16, lba: place{2, 8}, blocks: place{13, 1}, narrow: true},
	{first: 0x93, size: 16, lba: place{2, 8}, blocks: place{10, 4}, narrow: true, must: 1 << 0},
	{first: 0x5e, size: 10, want: place{7, 2}, actions: 1<<0 | 1<<1},
	{first: 0x5f, size: 10, want: place{5, 4}, actions: 1<<0 | 1<<1 | 1<<2 | 1<<3 | 1<<4 | 1<<6,
		typed: 1<<1 | 1<<2 | 1<<4, empty: 0xf0, list: 24},
	{first: 0xa0, size: 12, want: place{6, 4}},
}

// formOf is the form of the blocks with this first byte, if there are any.
func formOf(first int) (form, bool) {
	for _, f := range forms {
		if f.first == first {
			return f, true
		}
	}
	return form{}, false
}

// read is what a block of this form asks, whether or not the form allows it.
func (f form) read(s string) Ask {
	x := Ask{
		Op:     f.first,
		Lba:    number(s, f.lba),
		Blocks: number(s, f.blocks),
		Fua:    s[1]&f.fua != 0,
		Want:   number(s, f.want),
	}
	if s[1]&f.page != 0 {
		x.Page = requested + int(s[2])
	}
	if f.actions != 0 {
		x.Op = actionSpan*f.first + action(s)
	}
	if fields.Bit(f.typed, action(s)) {
		x.Type = Type(int(s[2] &^ f.empty))
	}
	return x
}

// allows tells whether the form allows the block s, of which x was read.
func (f form) allows(s string, x Ask) bool {
	a := action(s)
	switch {
	case s[1]&f.must != f.must, s[2]&f.empty != 0:
		return false
	case f.actions != 0 && !fields.Bit(f.actions, a):
		return false
	case fields.Bit(f.typed, a) && x.Type == 0:
		return false
	case f.narrow && !(isNarrow(x.Lba) && isNarrow(x.Blocks)):
		return false
	}
	return f.list == 0 || x.Want == f.list
}

// write is the block of this form that comes nearest to asking x.
func (f form) write(x Ask, action int) string {
	b := make([]byte, f.size)
	b[0] = byte(f.first)
	b[1] = f.must | byte(action)
	if x.Fua {
		b[1] |= f.fua
	}
	if x.Page != 0 {
		b[1] |= f.page
		b[2] = byte(x.Page)
	}
	if x.Type != 0 {
		b[2] = byte(Number(x.Type))
	}
	put(b, f.lba, x.Lba)
	put(b, f.blocks, x.Blocks)
	put(b, f.want, x.Want)
	return string(b)
}

// action is the action in byte 1 of a block.
func action(s string) int { return int(fields.Bits(uint64(s[1]), 0, actionBits)) }

// isNarrow tells whether a number that was read from up to eight bytes is one of a narrow form.
func isNarrow(n int) bool {
	// With the top bit of eight bytes set it has wrapped round.
	return n >= 0 && n < narrowEnd
}

func number(s string, p place) int {
	v, _ := fields.Big(s, p.at, p.n)
	return int(v)
}

func put(b []byte, p place, n int) { copy(b[p.at:], fields.PutBig(uint64(n), p.n)) }
