package scsi

import (
	"reflect"

	"headgate/api"
	"headgate/cdb"
	"headgate/exec"
	"headgate/inquiry"
	"headgate/prout"
)

// The promises in the chapter's words, block by block: what the tests hold the package against.

// eb is the n bytes of a number, the most significant one first.
func eb(v uint64, n int) string {
	b := make([]byte, n)
	for i := n - 1; i >= 0; i-- {
		b[i] = byte(v % 256)
		v /= 256
	}
	return string(b)
}

// be is the number in some bytes, the most significant one first.
func be(s string) uint64 {
	var v uint64
	for i := range len(s) {
		v = v*256 + uint64(s[i])
	}
	return v
}

// modelReply is the reply for an outcome, by chapter 16.
func modelReply(o api.Out, data string) api.Reply {
	r := api.Reply{Status: 2, Sense: api.Sense{Key: 3, Asc: 12, At: -1}, Data: data}
	switch o.Code {
	case api.Good:
		r.Status, r.Sense = 0, api.Sense{At: -1}
	case api.Conflict:
		r.Status, r.Sense = 24, api.Sense{At: -1}
	case api.Differ:
		r.Sense = api.Sense{Key: 14, Asc: 29, At: o.At}
	case api.Beyond:
		r.Sense = api.Sense{Key: 5, Asc: 33, At: -1}
	case api.Wrong:
		r.Sense = api.Sense{Key: 5, Asc: 36, At: -1}
	case api.NoUnit:
		r.Sense = api.Sense{Key: 5, Asc: 37, At: -1}
	case api.Told:
		r.Sense = api.Sense{Key: 6, Asc: 42, At: -1}
		switch o.Why {
		case api.WhyPower:
			r.Sense.Asc = 41
		case api.WhyPreempted:
			r.Sense.Ascq = 5
		case api.WhyReleased:
			r.Sense.Ascq = 4
		case api.WhyCleared:
			r.Sense.Ascq = 3
		}
	}
	return r
}

func modelFailed(code int) api.Reply { return modelReply(api.Out{Code: code}, "") }

// modelNeed is P19.1, for a block by its bytes.
func modelNeed(s string) (out, in int) {
	if _, err := cdb.Parse(s); err != api.OK {
		return 0, 0
	}
	switch s[0] {
	case 0x2a:
		out = 512 * int(be(s[7:9]))
	case 0x8a:
		out = 512 * int(be(s[10:14]))
	case 0x89:
		out = 1024 * int(s[13])
	case 0x42:
		out = int(be(s[7:9]))
	case 0x5f:
		out = int(be(s[5:9]))
	case 0x28:
		in = 512 * int(be(s[7:9]))
	case 0x88:
		in = 512 * int(be(s[10:14]))
	case 0x25:
		in = 8
	case 0x12:
		in = int(be(s[3:5]))
	case 0xa0:
		in = int(be(s[6:10]))
	case 0x5e:
		in = int(be(s[7:9]))
	}
	return out, in
}

func cut(s string, n int) string {
	if n < len(s) {
		return s[:n]
	}
	return s
}

// modelDo is P19.2, on an executor of its own.
func modelDo(y *exec.Exec, host string, lun int, s, data string) api.Reply {
	a, err := cdb.Parse(s)
	if out, _ := modelNeed(s); y == nil || err != api.OK || len(data) != out {
		return modelFailed(api.Wrong)
	}
	l := y.Cache().Store().Units()
	there := lun >= 0 && lun < len(l)
	var u api.Unit
	if there {
		u = l[lun]
	}
	switch s[0] {
	case 0x12:
		page, err := inquiry.Page(u, there, a.Page)
		if err != api.OK {
			return modelFailed(api.Wrong)
		}
		return modelReply(api.Out{Code: api.Good}, cut(page, a.Want))
	case 0xa0:
		if a.Want < 16 {
			return modelFailed(api.Wrong)
		}
		return modelReply(api.Out{Code: api.Good}, cut(inquiry.List(len(l)), a.Want))
	}
	if !there {
		return modelFailed(api.NoUnit)
	}
	if y.Units().Wait(lun, host) > 0 {
		why, _ := y.Units().Take(lun, host)
		return modelReply(api.Out{Code: api.Told, Why: why}, "")
	}
	return modelExecuted(y, host, lun, a, data)
}

// modelExecuted is P19.2 for what gets to the executor.
func modelExecuted(y *exec.Exec, host string, lun int, a cdb.Ask, data string) api.Reply {
	c := api.Cmd{Host: host, Lun: lun}
	switch a.Op {
	case 0x00:
		c.Op = api.OpReady
	case 0x25:
		c.Op = api.OpSize
	case 0x28, 0x88:
		c.Op, c.Lba, c.Blocks = api.OpRead, a.Lba, a.Blocks
	case 0x2a, 0x8a:
		c.Op, c.Lba, c.Data, c.Fua = api.OpWrite, a.Lba, data, a.Fua
	case 0x35:
		c.Op = api.OpFlush
	case 0x42:
		l, err := inquiry.Ranges(data)
		if err != api.OK {
			return modelFailed(api.Wrong)
		}
		c.Op, c.Ranges = api.OpUnmap, l
	case 0x93:
		c.Op, c.Lba, c.Blocks = api.OpZero, a.Lba, a.Blocks
	case 0x89:
		c.Op, c.Lba, c.Data = api.OpCompare, a.Lba, data
	case 0x5e00:
		c.Op = api.OpKeys
	case 0x5e01:
		c.Op = api.OpHolder
	default:
		change, err := prout.Change(a.Op-0x5f00, a.Type, data)
		if err != api.OK {
			return modelFailed(api.Wrong)
		}
		c = change
		c.Host, c.Lun = host, lun
	}
	o := y.Do(c)
	if o.Code != api.Good {
		return modelReply(o, "")
	}
	switch c.Op {
	case api.OpSize:
		o.Data = eb(uint64(o.N-1), 4) + "\x00\x00\x02\x00"
	case api.OpKeys:
		o.Data = cut(prout.Keys(o.Gen, o.Regs), a.Want)
	case api.OpHolder:
		o.Data = cut(prout.Holder(o.Gen, o.Hold, o.Regs), a.Want)
	}
	return modelReply(o, o.Data)
}

// uses clears those parts of c that its operation uses, by package api.
func uses(c api.Cmd) api.Cmd {
	switch c.Op {
	case api.OpRead, api.OpZero:
		c.Lba, c.Blocks = 0, 0
	case api.OpWrite:
		c.Lba, c.Data, c.Fua = 0, "", false
	case api.OpCompare:
		c.Lba, c.Data = 0, ""
	case api.OpUnmap:
		c.Ranges = nil
	case api.OpRegister:
		if !c.Ignore {
			c.Key = 0
		}
		c.NewKey, c.Ignore, c.Aptpl = 0, false, 0
	case api.OpReserve, api.OpRelease:
		c.Key, c.Type = 0, 0
	case api.OpClear:
		c.Key = 0
	case api.OpPreempt:
		c.Key, c.Other, c.Type = 0, 0, 0
	}
	c.Op, c.Lun, c.Host = 0, 0, ""
	if len(c.Ranges) == 0 {
		c.Ranges = nil
	}
	return c
}

func isShort(n int) bool { return n >= 0 && n < 1<<31 }

// modelEncode is P19.3: the block, byte by byte, and the data; false if there are none.
func modelEncode(c api.Cmd) (s, data string, ok bool) {
	if !reflect.DeepEqual(uses(c), api.Cmd{}) || !isShort(c.Lba) {
		return "", "", false
	}
	lba, n := eb(uint64(c.Lba), 8), len(c.Data)
	switch c.Op {
	case api.OpReady:
		return "\x00\x00\x00\x00\x00\x00", "", true
	case api.OpSize:
		return "\x25\x00\x00\x00\x00\x00\x00\x00\x00\x00", "", true
	case api.OpFlush:
		return "\x35\x00\x00\x00\x00\x00\x00\x00\x00\x00", "", true
	case api.OpRead:
		return "\x88\x00" + lba + eb(uint64(c.Blocks), 4) + "\x00\x00", "", c.Blocks >= 0 && c.Blocks <= 64
	case api.OpWrite:
		fua := "\x00"
		if c.Fua {
			fua = "\x08"
		}
		return "\x8a" + fua + lba + eb(uint64(n/512), 4) + "\x00\x00", c.Data, n%512 == 0 && n <= 64*512
	case api.OpZero:
		return "\x93\x01" + lba + eb(uint64(c.Blocks), 4) + "\x00\x00", "", isShort(c.Blocks)
	case api.OpCompare:
		return "\x89\x00" + lba + "\x00\x00\x00" + eb(uint64(n/1024), 1) + "\x00\x00", c.Data, n%1024 == 0 && n <= 64*512
	case api.OpUnmap:
		l, err := inquiry.Unmap(c.Ranges)
		return "\x42\x00\x00\x00\x00\x00\x00" + eb(uint64(len(l)), 2) + "\x00", l, err == api.OK
	case api.OpKeys:
		return "\x5e\x00\x00\x00\x00\x00\x00\xff\xff\x00", "", true
	case api.OpHolder:
		return "\x5e\x01\x00\x00\x00\x00\x00\xff\xff\x00", "", true
	}
	return modelChange(c)
}

// modelChange is modelEncode of the changes of reservations.
func modelChange(c api.Cmd) (s, data string, ok bool) {
	action, typ := 0, []int{0, 1, 3, 5, 6, 7, 8}[min(max(c.Type, 0), 6)]
	second, aptpl := uint64(0), uint64(0)
	switch c.Op {
	case api.OpRegister:
		if c.Aptpl != api.AptplOff && c.Aptpl != api.AptplOn {
			return "", "", false
		}
		if c.Ignore {
			action = 6
		}
		second, aptpl = c.NewKey, uint64(c.Aptpl-1)
	case api.OpReserve:
		action = 1
	case api.OpRelease:
		action = 2
	case api.OpClear:
		action = 3
	case api.OpPreempt:
		action, second = 4, c.Other
	default:
		return "", "", false
	}
	if c.Op != api.OpRegister && c.Op != api.OpClear && (c.Type < 1 || c.Type > 6) {
		return "", "", false
	}
	s = "\x5f" + eb(uint64(action), 1) + eb(uint64(typ), 1) + "\x00\x00\x00\x00\x00\x18\x00"
	return s, eb(c.Key, 8) + eb(second, 8) + eb(aptpl<<24, 8), true
}

// modelDecode is P19.4; an outcome is that of a reply which modelReply makes.
func modelDecode(c api.Cmd, r api.Reply) (api.Out, bool) {
	if _, _, ok := modelEncode(c); !ok {
		return api.Out{}, false
	}
	for code := api.Good; code <= api.Broken; code++ {
		for why := range 5 {
			o := api.Out{Code: code, Why: why}
			if code == api.Differ {
				o.At = r.Sense.At
			}
			if (code == api.Told) != (why > 0) || o.At < 0 || o.At >= 1<<32 || modelReply(o, r.Data) != r {
				continue
			}
			if code == api.Good {
				return modelGood(c, r.Data)
			}
			return o, r.Data == ""
		}
	}
	return api.Out{}, false
}

// modelGood is modelDecode of a reply without a sense.
func modelGood(c api.Cmd, s string) (api.Out, bool) {
	o := api.Out{Code: api.Good}
	switch c.Op {
	case api.OpRead:
		o.Data = s
		return o, len(s) == 512*c.Blocks
	case api.OpSize:
		if len(s) != 8 || s[:4] == "\xff\xff\xff\xff" || s[4:] != "\x00\x00\x02\x00" {
			return api.Out{}, false
		}
		o.N = int(be(s[:4])) + 1
		return o, true
	case api.OpKeys:
		if len(s) < 8 || len(s) > 8+8*16 || len(s)%8 != 0 || be(s[4:8]) != uint64(len(s)-8) {
			return api.Out{}, false
		}
		o.Gen = uint32(be(s[:4]))
		for i := 8; i < len(s); i += 8 {
			o.Regs = append(o.Regs, api.Reg{Key: be(s[i : i+8])})
		}
		return o, true
	case api.OpHolder:
		return modelHolder(s)
	}
	return o, s == ""
}

// modelHolder is modelGood of OpHolder.
func modelHolder(s string) (api.Out, bool) {
	o := api.Out{Code: api.Good}
	if len(s) == 8 {
		o.Gen = uint32(be(s[:4]))
		return o, s[4:] == "\x00\x00\x00\x00"
	}
	if len(s) != 24 || be(s[4:8]) != 16 || be(s[16:21]) != 0 || be(s[22:24]) != 0 {
		return api.Out{}, false
	}
	for typ, number := range []byte{0, 1, 3, 5, 6, 7, 8} {
		if typ > 0 && s[21] == number {
			o.Gen, o.Hold.Type = uint32(be(s[:4])), typ
			return o, true
		}
	}
	return api.Out{}, false
}
