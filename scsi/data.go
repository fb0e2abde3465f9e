package scsi

import (
	"strings"

	"headgate/api"
	"headgate/cdb"
	"headgate/fields"
	"headgate/inquiry"
	"headgate/prout"
)

// Where the parts of what is told stand.
const (
	numberSize   = 4 // of a capacity's parts, of Gen, and of the number of bytes that follow
	capacitySize = 2 * numberSize
	headSize     = 2 * numberSize // of the keys and of the holder
	keySize      = 8
	typeAt       = 21 // in the holder
)

// dataOf is how a reply tells what a command with this operation has come to, if that is Good.
func dataOf(op int, o api.Out) string {
	switch op {
	case api.OpSize:
		return inquiry.Capacity(o.N)
	case api.OpKeys:
		return prout.Keys(o.Gen, o.Regs)
	case api.OpHolder:
		return prout.Holder(o.Gen, o.Hold, o.Regs)
	}
	return o.Data
}

// told is what a command with this operation has come to by the data of a reply that tells success, if they may be such data.
// The command's block asks for at most so many bytes.
func told(op, most int, data string) (api.Out, bool) {
	o := read(op, data)
	// What stands anywhere else, and how much of it, is held against what would be told.
	if dataOf(op, o) != data || op == api.OpRead && len(data) != most {
		return api.Out{}, false
	}
	return withoutHosts(op, o), true
}

// read is the outcome that comes nearest to being told by these data.
func read(op int, data string) api.Out {
	o := api.Out{Code: api.Good}
	switch op {
	case api.OpRead:
		o.Data = strings.Clone(data)
	case api.OpSize:
		o.N = number(data, 0) + 1
	case api.OpKeys:
		o.Gen, o.Regs = uint32(number(data, 0)), keys(data)
	case api.OpHolder:
		o.Gen = uint32(number(data, 0))
		o.Hold, o.Regs = holder(data)
	}
	return o
}

// keys are the registrants that are told, without their hosts.
func keys(data string) []api.Reg {
	var l []api.Reg
	for n := range min((len(data)-headSize)/keySize, api.MaxHosts) {
		key, _ := fields.Big(data, headSize+n*keySize, keySize)
		l = append(l, api.Reg{Key: key})
	}
	return l
}

// holder is the reservation that is told (its type is 0 if none is), and the registrant that holds it. The host, which isn't
// told, is made up, since the key is that of a registrant by its host.
func holder(data string) (api.Hold, []api.Reg) {
	const host = "h"
	key, _ := fields.Big(data, headSize, keySize)
	typ, _ := fields.Big(data, typeAt, 1)
	return api.Hold{Type: cdb.Type(int(typ)), Host: host}, []api.Reg{{Host: host, Key: key}}
}

// withoutHosts is o without what read has made up.
func withoutHosts(op int, o api.Out) api.Out {
	if op == api.OpHolder {
		o.Hold.Host, o.Regs = "", nil
	}
	return o
}

// number is one of the parts with numberSize bytes.
func number(data string, at int) int {
	n, _ := fields.Big(data, at, numberSize)
	return int(n)
}
