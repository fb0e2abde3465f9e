package ipdu

import (
	"encoding/binary"
	"hash/crc32"
	"strings"

	"headgate/api"
)

// The promises in the chapter's words: what the tests hold the package against.

func zeros(n int) string { return strings.Repeat("\x00", n) }

func modelDigest(s string) string {
	sum := crc32.Checksum([]byte(s), crc32.MakeTable(crc32.Castagnoli))
	return string(binary.LittleEndian.AppendUint32(nil, sum))
}

// modelWord is the four bytes of v.
func modelWord(v uint32) string { return string(binary.BigEndian.AppendUint32(nil, v)) }

// modelLength is the three bytes of a length.
func modelLength(n int) string { return string([]byte{byte(n / 65536), byte(n / 256), byte(n)}) }

func modelHead(kind int, urgent bool, flags int, tag uint32) string {
	first := (kind%64 + 64) % 64
	if urgent {
		first += 64
	}
	second := (flags%256 + 256) % 256
	return string([]byte{byte(first), byte(second)}) + zeros(14) + modelWord(tag) + zeros(28)
}

func modelKind(head string) (int, bool) {
	if head == "" {
		return 0, false
	}
	return int(head[0] % 64), head[0]%128 >= 64
}

func modelHas(head string, at int) bool { return at >= 0 && at <= 1000000 && at+4 <= len(head) }

func modelNum(head string, at int) uint32 {
	if !modelHas(head, at) {
		return 0
	}
	return binary.BigEndian.Uint32([]byte(head[at:]))
}

func modelWith(p api.Pdu, at int, v uint32) api.Pdu {
	if !modelHas(p.Head, at) {
		return p
	}
	return api.Pdu{Head: p.Head[:at] + modelWord(v) + p.Head[at+4:], Data: p.Data}
}

// modelPut is the encoding of p, and p as it is encoded, if it is a message.
func modelPut(p api.Pdu, heads, datas bool) (string, api.Pdu, bool) {
	if len(p.Head) != 48 || p.Head[0] >= 128 || p.Head[4] != 0 || len(p.Data) > 8192 {
		return "", api.Pdu{}, false
	}
	head := p.Head[:5] + modelLength(len(p.Data)) + p.Head[8:]
	data := p.Data
	for len(data)%4 != 0 {
		data += "\x00"
	}
	s := head
	if heads {
		s += modelDigest(head)
	}
	s += data
	if datas && data != "" {
		s += modelDigest(data)
	}
	return s, api.Pdu{Head: head, Data: p.Data}, true
}

func modelGet(s string, heads, datas bool) (api.Pdu, int, api.Errno) {
	if heads && len(s) >= 52 && s[48:52] != modelDigest(s[:48]) {
		return api.Pdu{}, 0, api.ErrDigest
	}
	if len(s) < 48 {
		return api.Pdu{}, 0, api.OK
	}
	length := int(s[5])*65536 + int(s[6])*256 + int(s[7])
	if s[0] >= 128 || s[4] != 0 || length > 8192 {
		return api.Pdu{}, 0, api.ErrPdu
	}
	from := 48
	if heads {
		from = 52
	}
	to := from + length
	for (to-from)%4 != 0 {
		to++
	}
	if !datas || length == 0 {
		if len(s) < to {
			return api.Pdu{}, 0, api.OK
		}
		return api.Pdu{Head: s[:48], Data: s[from : from+length]}, to, api.OK
	}
	if len(s) < to+4 {
		return api.Pdu{}, 0, api.OK
	}
	p := api.Pdu{Head: s[:48], Data: s[from : from+length]}
	if s[to:to+4] != modelDigest(s[from:to]) {
		return p, to + 4, api.ErrSum
	}
	return p, to + 4, api.OK
}
