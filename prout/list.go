package prout

import "headgate/fields"

// Where the parts of the list of a change stand.
const (
	keyAt    = 0
	secondAt = 8
	flagsAt  = 20
	keySize  = 8
	listSize = 24
	aptplBit = 0 // of the flags
)

// list is what the list of a change has in it.
type list struct {
	key, second uint64
	aptpl       bool
}

// read is what the list s has in it, if s is the list of a change.
func read(s string) (list, bool) {
	if len(s) != listSize {
		return list{}, false
	}
	l := list{aptpl: fields.Bit(uint64(s[flagsAt]), aptplBit)}
	l.key, _ = fields.Big(s, keyAt, keySize)
	l.second, _ = fields.Big(s, secondAt, keySize)
	// What stands anywhere else is held against what would be sent.
	return l, l.write() == s
}

// write is the list with l in it.
func (l list) write() string {
	b := make([]byte, listSize)
	copy(b[keyAt:], fields.PutBig(l.key, keySize))
	copy(b[secondAt:], fields.PutBig(l.second, keySize))
	if l.aptpl {
		b[flagsAt] = 1 << aptplBit
	}
	return string(b)
}
