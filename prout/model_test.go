package prout

import "headgate/api"

// The promises in the chapter's words, byte by byte: what the tests hold the package against.

// eb is the n bytes of a number, the most significant one first.
func eb(v uint64, n int) string {
	b := make([]byte, n)
	for i := n - 1; i >= 0; i-- {
		b[i] = byte(v % 256)
		v /= 256
	}
	return string(b)
}

// be is the number in eight bytes, the most significant one first.
func be(s string) uint64 {
	v := uint64(0)
	for i := range 8 {
		v = v*256 + uint64(s[i])
	}
	return v
}

// written is a list with these parts, whether or not a change may have it.
func written(key, second uint64, aptpl bool) string {
	if aptpl {
		return eb(key, 8) + eb(second, 8) + "\x00\x00\x00\x00\x01\x00\x00\x00"
	}
	return eb(key, 8) + eb(second, 8) + "\x00\x00\x00\x00\x00\x00\x00\x00"
}

// modelList is the two keys and the bit of the list s, and whether it is the list of a change.
func modelList(s string) (key, second uint64, aptpl, ok bool) {
	if len(s) != 24 {
		return 0, 0, false, false
	}
	for i := 16; i < 24; i++ {
		if s[i] != 0 && !(i == 20 && s[i] == 1) {
			return 0, 0, false, false
		}
	}
	return be(s[:8]), be(s[8:16]), s[20] == 1, true
}

// modelChange is what Change answers, and whether it is no error.
func modelChange(action, typ int, s string) (api.Cmd, bool) {
	key, second, aptpl, ok := modelList(s)
	if !ok || action < 0 || action == 5 || action > 6 {
		return api.Cmd{}, false
	}
	if (action == 1 || action == 2 || action == 3) && second != 0 || action >= 1 && action <= 4 && aptpl {
		return api.Cmd{}, false
	}
	if (action == 0 || action == 3 || action == 6) && typ != 0 {
		return api.Cmd{}, false
	}
	stored := 1
	if aptpl {
		stored = 2
	}
	switch action {
	case 0:
		return api.Cmd{Op: 8, Key: key, NewKey: second, Aptpl: stored}, true
	case 1:
		return api.Cmd{Op: 9, Key: key, Type: typ}, true
	case 2:
		return api.Cmd{Op: 10, Key: key, Type: typ}, true
	case 3:
		return api.Cmd{Op: 11, Key: key}, true
	case 4:
		return api.Cmd{Op: 12, Key: key, Other: second, Type: typ}, true
	}
	return api.Cmd{Op: 8, NewKey: second, Ignore: true, Aptpl: stored}, true
}

// modelBack is what List answers, and whether it is no error.
func modelBack(c api.Cmd) (action int, s string, ok bool) {
	if c.Lun != 0 || c.Host != "" || c.Lba != 0 || c.Blocks != 0 || c.Data != "" || c.Fua || len(c.Ranges) != 0 {
		return 0, "", false
	}
	if c.Op == 8 {
		if c.Other != 0 || c.Type != 0 || c.Aptpl != 1 && c.Aptpl != 2 || c.Ignore && c.Key != 0 {
			return 0, "", false
		}
		if c.Ignore {
			action = 6
		}
		return action, written(c.Key, c.NewKey, c.Aptpl == 2), true
	}
	if c.NewKey != 0 || c.Ignore || c.Aptpl != 0 {
		return 0, "", false
	}
	switch {
	case c.Op == 9 && c.Other == 0:
		return 1, written(c.Key, 0, false), true
	case c.Op == 10 && c.Other == 0:
		return 2, written(c.Key, 0, false), true
	case c.Op == 11 && c.Other == 0 && c.Type == 0:
		return 3, written(c.Key, 0, false), true
	case c.Op == 12:
		return 4, written(c.Key, c.Other, false), true
	}
	return 0, "", false
}

func modelKeys(gen uint32, l []api.Reg) string {
	s, n := "", 0
	for _, r := range l {
		if n < 16 {
			s += eb(r.Key, 8)
			n++
		}
	}
	return eb(uint64(gen), 4) + eb(uint64(8*n), 4) + s
}

func modelHolder(gen uint32, h api.Hold, l []api.Reg) string {
	number := 0
	switch h.Type {
	case 1:
		number = 1
	case 2:
		number = 3
	case 3:
		number = 5
	case 4:
		number = 6
	case 5:
		number = 7
	case 6:
		number = 8
	default:
		return eb(uint64(gen), 4) + "\x00\x00\x00\x00"
	}
	key := uint64(0)
	for i := len(l) - 1; i >= 0; i-- {
		if h.Host != "" && l[i].Host == h.Host {
			key = l[i].Key
		}
	}
	return eb(uint64(gen), 4) + "\x00\x00\x00\x10" + eb(key, 8) + "\x00\x00\x00\x00\x00" + string([]byte{byte(number)}) + "\x00\x00"
}
