package image

import (
	"encoding/binary"
	"hash/crc32"

	"headgate/api"
	"headgate/resv"
)

// sealed is body with its digest behind it.
func sealed(body string) string {
	sum := crc32.Checksum([]byte(body), crc32.MakeTable(crc32.Castagnoli))
	return body + string(binary.LittleEndian.AppendUint32(nil, sum))
}

// unsealed is an image without its digest.
func unsealed(s string) string { return s[:len(s)-4] }

// modelEncode is the image of a good table in the chapter's words.
func modelEncode(t api.Table) string {
	b := binary.BigEndian.AppendUint32([]byte("HGRT"), t.Gen)
	b = append(b, byte(t.Hold.Type), 0, 0, byte(len(t.Regs)))
	if t.Aptpl {
		b[10] = 1
	}
	for i, r := range t.Regs {
		if t.Hold.Host != "" && r.Host == t.Hold.Host {
			b[9] = byte(i + 1)
		}
		b = binary.BigEndian.AppendUint64(b, r.Key)
		b = append(b, byte(len(r.Host)))
		b = append(b, r.Host...)
	}
	return sealed(string(b))
}

// modelDecode is the table whose image s is, in the chapter's words: each byte is asked for by itself.
func modelDecode(s string) (t api.Table, ok bool) {
	if len(s) < 16 || s[:4] != "HGRT" || s != sealed(unsealed(s)) {
		return api.Table{}, false
	}
	head, rest := []byte(s[:12]), unsealed(s)[12:]
	t.Gen = binary.BigEndian.Uint32(head[4:])
	t.Hold.Type = int(head[8])
	t.Aptpl = head[10] == 1
	for range head[11] {
		if len(rest) < 9 || len(rest) < 9+int(rest[8]) {
			return api.Table{}, false
		}
		end := 9 + int(rest[8])
		t.Regs = append(t.Regs, api.Reg{Key: binary.BigEndian.Uint64([]byte(rest[:8])), Host: rest[9:end]})
		rest = rest[end:]
	}
	if rest != "" || head[10] > 1 || int(head[9]) > len(t.Regs) {
		return api.Table{}, false
	}
	if head[9] > 0 {
		t.Hold.Host = t.Regs[head[9]-1].Host
	}
	if !resv.Good(t) {
		return api.Table{}, false
	}
	return t, true
}
