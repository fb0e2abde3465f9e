package inquiry

import (
	"strings"

	"headgate/api"
)

// The promises in the chapter's words, byte by byte: what the tests hold the package against.

// eb is the n bytes of a number, the most significant one first.
func eb(v, n int) string {
	b := make([]byte, n)
	for i := n - 1; i >= 0; i-- {
		b[i] = byte(v % 256)
		v /= 256
	}
	return string(b)
}

// be is the number in some bytes, the most significant one first, or -1 if it is 2^32 or more.
func be(s string) int {
	v := 0
	for i := range len(s) {
		if v = v*256 + int(s[i]); v >= 4294967296 {
			return -1
		}
	}
	return v
}

func modelStandard(there bool) string {
	var b [36]byte
	for i := range b {
		switch {
		case i == 0 && !there:
			b[i] = 0x7f
		case i == 2:
			b[i] = 6
		case i == 3:
			b[i] = 2
		case i == 4:
			b[i] = 31
		case i >= 8 && i <= 15:
			b[i] = "HEADGATE"[i-8]
		case i >= 16 && i <= 25:
			b[i] = "BLOCK UNIT"[i-16]
		case i >= 26 && i <= 31:
			b[i] = ' '
		case i >= 32:
			b[i] = "0001"[i-32]
		}
	}
	return string(b[:])
}

func modelLimits() string {
	var b [64]byte
	for i := range b {
		switch i {
		case 1:
			b[i] = 176
		case 3:
			b[i] = 60
		case 5:
			b[i] = 32
		case 11: // MaxXfer is 64
			b[i] = 64
		case 22: // MaxBlocks is 4096, which is 16 times 256
			b[i] = 16
		case 27: // MaxRanges is 16
			b[i] = 16
		}
	}
	return string(b[:])
}

// modelPage is what Page answers, and whether it is no error.
func modelPage(u api.Unit, there bool, page int) (string, bool) {
	switch {
	case page == 0:
		return modelStandard(there), true
	case !there:
		return "", false
	case page == 256:
		return string([]byte{0, 0, 0, 3, 0, 131, 176}), true
	case page == 387 && len(u.Id) == 16:
		return string([]byte{0, 131, 0, 20, 1, 1, 0, 16}) + u.Id, true
	case page == 432:
		return modelLimits(), true
	}
	return "", false
}

func modelCapacity(blocks int) string {
	last := 0
	if blocks >= 1 && blocks < 4294967296 {
		last = blocks - 1
	}
	return eb(last, 4) + "\x00\x00\x02\x00"
}

func modelList(units int) string {
	if units < 0 || units > 256 {
		units = 0
	}
	s := eb(8*units, 4) + "\x00\x00\x00\x00"
	for n := range units {
		s += "\x00" + string([]byte{byte(n)}) + "\x00\x00\x00\x00\x00\x00"
	}
	return s
}

// modelRanges is the ranges of s, and whether it is the list of an unmap.
func modelRanges(s string) ([]api.Range, bool) {
	if len(s) < 8 || len(s)%16 != 8 || len(s) > 264 || be(s[:2]) != len(s)-2 || be(s[2:4]) != len(s)-8 || s[4:8] != "\x00\x00\x00\x00" {
		return nil, false
	}
	var l []api.Range
	for s = s[8:]; s != ""; s = s[16:] {
		lba := be(s[:8])
		if lba < 0 || lba >= 2147483648 || s[12:16] != "\x00\x00\x00\x00" {
			return nil, false
		}
		l = append(l, api.Range{Lba: lba, Blocks: be(s[8:12])})
	}
	return l, true
}

// modelUnmap is the list of these ranges, and whether there is one.
func modelUnmap(l []api.Range) (string, bool) {
	for _, r := range l {
		if r.Lba < 0 || r.Lba > 2147483647 || r.Blocks < 0 || r.Blocks > 4294967295 {
			return "", false
		}
	}
	return written(l), len(l) <= 16
}

// written is the list of these ranges, whether or not there is one.
func written(l []api.Range) string {
	var s strings.Builder
	s.WriteString(eb(6+16*len(l), 2) + eb(16*len(l), 2) + "\x00\x00\x00\x00")
	for _, r := range l {
		s.WriteString(eb(r.Lba, 8) + eb(r.Blocks, 4) + "\x00\x00\x00\x00")
	}
	return s.String()
}
