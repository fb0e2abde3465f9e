package sense

import "headgate/api"

// The promises in the chapter's words: what the tests hold the package against.

// broken is what reports whatever is no outcome.
var broken = api.Sense{Key: 3, Asc: 12, At: -1}

// modelBytes is the eighteen bytes of x, if it is a sense.
func modelBytes(x api.Sense) (string, bool) {
	if x.Key < 0 || x.Key > 15 || x.Asc < 0 || x.Asc > 255 || x.Ascq < 0 || x.Ascq > 255 || x.At < -1 || x.At > 4294967295 {
		return "", false
	}
	head, place := "\x70", "\x00\x00\x00\x00"
	if x.At != -1 {
		head = "\xf0"
		place = string([]byte{byte(x.At / 16777216), byte(x.At / 65536), byte(x.At / 256), byte(x.At)})
	}
	return head + "\x00" + string([]byte{byte(x.Key)}) + place + "\x0a\x00\x00\x00\x00" + string([]byte{byte(x.Asc), byte(x.Ascq)}) + "\x00\x00\x00\x00", true
}

// modelParse is the sense with the bytes s, if there is one.
func modelParse(s string) (api.Sense, bool) {
	if len(s) != 18 || s[1] != 0 || s[2] > 15 || s[7] != 10 || s[8:12] != "\x00\x00\x00\x00" || s[14:] != "\x00\x00\x00\x00" {
		return api.Sense{}, false
	}
	x := api.Sense{Key: int(s[2]), Asc: int(s[12]), Ascq: int(s[13]), At: -1}
	switch {
	case s[0] == 0x70 && s[3:7] == "\x00\x00\x00\x00":
		return x, true
	case s[0] == 0xf0:
		x.At = ((int(s[3])*256+int(s[4]))*256+int(s[5]))*256 + int(s[6])
		return x, true
	}
	return api.Sense{}, false
}

// modelOf is what reports o, and whether o is one of the outcomes that are told.
func modelOf(o api.Out) (status int, x api.Sense, ok bool) {
	none := api.Sense{At: -1}
	switch o.Code {
	case api.Good:
		return 0, none, true
	case api.Conflict:
		return 24, none, true
	case api.Differ:
		if o.At >= 0 && o.At <= 4294967295 {
			return 2, api.Sense{Key: 14, Asc: 29, At: o.At}, true
		}
	case api.Beyond:
		return 2, api.Sense{Key: 5, Asc: 33, At: -1}, true
	case api.Wrong:
		return 2, api.Sense{Key: 5, Asc: 36, At: -1}, true
	case api.NoUnit:
		return 2, api.Sense{Key: 5, Asc: 37, At: -1}, true
	case api.Broken:
		return 2, broken, true
	case api.Told:
		switch o.Why {
		case api.WhyPower:
			return 2, api.Sense{Key: 6, Asc: 41, At: -1}, true
		case api.WhyPreempted:
			return 2, api.Sense{Key: 6, Asc: 42, Ascq: 5, At: -1}, true
		case api.WhyReleased:
			return 2, api.Sense{Key: 6, Asc: 42, Ascq: 4, At: -1}, true
		case api.WhyCleared:
			return 2, api.Sense{Key: 6, Asc: 42, Ascq: 3, At: -1}, true
		}
	}
	return 2, broken, false
}

// modelCode is the outcome that is reported so: each one is tried, with the place that is reported.
func modelCode(status int, x api.Sense) (code, at, why int, ok bool) {
	for code := range 20 {
		for why := range 20 {
			s, y, ok := modelOf(api.Out{Code: code, At: x.At, Why: why})
			if !ok || s != status || y != x {
				continue
			}
			switch code {
			case api.Differ:
				return code, x.At, 0, true
			case api.Told:
				return code, 0, why, true
			}
			return code, 0, 0, true
		}
	}
	return 0, 0, 0, false
}
