package cdb

// The promises in the chapter's words, command by command: what the tests hold the package against.

// sizes are the numbers of bytes by first byte.
var sizes = map[byte]int{
	0x00: 6, 0x12: 6,
	0x25: 10, 0x28: 10, 0x2a: 10, 0x35: 10, 0x42: 10, 0x5e: 10, 0x5f: 10,
	0xa0: 12,
	0x88: 16, 0x8a: 16, 0x89: 16, 0x93: 16,
}

// firsts are the first bytes, in order.
var firsts = []byte{0x00, 0x12, 0x25, 0x28, 0x2a, 0x35, 0x42, 0x5e, 0x5f, 0x88, 0x89, 0x8a, 0x93, 0xa0}

// protocol are the numbers of the types in this protocol, by those of package api.
var protocol = map[int]int{1: 1, 2: 3, 3: 5, 4: 6, 5: 7, 6: 8}

// be is the number in some bytes, the most significant one first.
func be(s string) uint64 {
	var v uint64
	for i := range len(s) {
		v = v*256 + uint64(s[i])
	}
	return v
}

// eb is the n bytes of a number, the most significant one first.
func eb(v, n int) string {
	b := make([]byte, n)
	for i := n - 1; i >= 0; i-- {
		b[i] = byte(v % 256)
		v /= 256
	}
	return string(b)
}

func modelType(n int) int {
	for typ, number := range protocol {
		if number == n {
			return typ
		}
	}
	return 0
}

// modelParse is what the block s asks, if it is one.
func modelParse(s string) (Ask, bool) {
	if s == "" || sizes[s[0]] == 0 || sizes[s[0]] != len(s) || s[len(s)-1] != 0 {
		return Ask{}, false
	}
	x := Ask{Op: int(s[0])}
	switch s[0] {
	case 0x00, 0x25, 0x35:
	case 0x12:
		x.Want = int(be(s[3:5]))
		if s[1]%2 == 1 {
			x.Page = 256 + int(s[2])
		}
	case 0x28:
		x.Lba, x.Blocks = int(be(s[2:6])), int(be(s[7:9]))
	case 0x2a:
		x.Lba, x.Blocks, x.Fua = int(be(s[2:6])), int(be(s[7:9])), s[1]/8%2 == 1
	case 0x42:
		x.Want = int(be(s[7:9]))
	case 0x88, 0x89, 0x8a, 0x93:
		return modelLong(s)
	case 0x5e:
		if s[1]%32 > 1 {
			return Ask{}, false
		}
		x.Op, x.Want = 256*0x5e+int(s[1]%32), int(be(s[7:9]))
	case 0x5f:
		return modelChange(s)
	case 0xa0:
		x.Want = int(be(s[6:10]))
	}
	return x, true
}

// modelLong is modelParse of the blocks of 16 bytes.
func modelLong(s string) (Ask, bool) {
	lba, blocks := be(s[2:10]), be(s[10:14])
	if s[0] == 0x89 {
		blocks = be(s[13:14])
	}
	if lba >= 1<<31 || blocks >= 1<<31 || s[0] == 0x93 && s[1]%2 == 0 {
		return Ask{}, false
	}
	return Ask{Op: int(s[0]), Lba: int(lba), Blocks: int(blocks), Fua: s[0] == 0x8a && s[1]/8%2 == 1}, true
}

// modelChange is modelParse of a change of reservations.
func modelChange(s string) (Ask, bool) {
	x := Ask{Op: 256*0x5f + int(s[1]%32), Want: 24}
	if s[2] >= 16 || s[5:9] != "\x00\x00\x00\x18" {
		return Ask{}, false
	}
	switch s[1] % 32 {
	case 0, 3, 6:
		return x, true
	case 1, 2, 4:
		if x.Type = modelType(int(s[2])); x.Type != 0 {
			return x, true
		}
	}
	return Ask{}, false
}

func below(n, end int) bool { return n >= 0 && n < end }

// modelBuild is the block that asks x, if x is a result of Parse.
func modelBuild(x Ask) (string, bool) {
	rest := x // what is left of x when all that its command has is taken away
	rest.Op = 0
	s, ok := "", true
	switch x.Op {
	case 0x00:
		s = "\x00\x00\x00\x00\x00\x00"
	case 0x25, 0x35:
		s = eb(x.Op, 1) + "\x00\x00\x00\x00\x00\x00\x00\x00\x00"
	case 0x12:
		rest.Page, rest.Want = 0, 0
		s, ok = "\x12\x00\x00"+eb(x.Want, 2)+"\x00", below(x.Want, 1<<16)
		if x.Page != 0 {
			s, ok = "\x12\x01"+eb(x.Page-256, 1)+eb(x.Want, 2)+"\x00", ok && x.Page >= 256 && x.Page < 512
		}
	case 0x28, 0x2a:
		rest.Lba, rest.Blocks = 0, 0
		bits := "\x00"
		if x.Op == 0x2a && x.Fua {
			bits, rest.Fua = "\x08", false
		}
		s = eb(x.Op, 1) + bits + eb(x.Lba, 4) + "\x00" + eb(x.Blocks, 2) + "\x00"
		ok = below(x.Lba, 1<<32) && below(x.Blocks, 1<<16)
	case 0x88, 0x89, 0x8a, 0x93:
		rest.Lba, rest.Blocks = 0, 0
		return modelWriteLong(x, rest)
	case 0x42:
		rest.Want = 0
		s, ok = "\x42\x00\x00\x00\x00\x00\x00"+eb(x.Want, 2)+"\x00", below(x.Want, 1<<16)
	case 256 * 0x5e, 256*0x5e + 1:
		rest.Want = 0
		s, ok = "\x5e"+eb(x.Op%256, 1)+"\x00\x00\x00\x00\x00"+eb(x.Want, 2)+"\x00", below(x.Want, 1<<16)
	case 256 * 0x5f, 256*0x5f + 3, 256*0x5f + 6:
		rest.Want = 0
		s, ok = "\x5f"+eb(x.Op%256, 1)+"\x00\x00\x00\x00\x00\x00\x18\x00", x.Want == 24
	case 256*0x5f + 1, 256*0x5f + 2, 256*0x5f + 4:
		rest.Want, rest.Type = 0, 0
		s = "\x5f" + eb(x.Op%256, 1) + eb(protocol[x.Type], 1) + "\x00\x00\x00\x00\x00\x18\x00"
		ok = x.Want == 24 && x.Type >= 1 && x.Type <= 6
	case 0xa0:
		rest.Want = 0
		s, ok = "\xa0\x00\x00\x00\x00\x00"+eb(x.Want, 4)+"\x00\x00", below(x.Want, 1<<32)
	default:
		ok = false
	}
	if !ok || rest != (Ask{}) {
		return "", false
	}
	return s, true
}

// modelWriteLong is modelBuild of the blocks of 16 bytes.
func modelWriteLong(x, rest Ask) (string, bool) {
	bits, blocks, end := "\x00", eb(x.Blocks, 4), 1<<31
	switch {
	case x.Op == 0x89:
		blocks, end = "\x00\x00\x00"+eb(x.Blocks, 1), 1<<8
	case x.Op == 0x93:
		bits = "\x01"
	case x.Op == 0x8a && x.Fua:
		bits, rest.Fua = "\x08", false
	}
	if !below(x.Lba, 1<<31) || !below(x.Blocks, end) || rest != (Ask{}) {
		return "", false
	}
	return eb(x.Op, 1) + bits + eb(x.Lba, 8) + blocks + "\x00\x00", true
}
