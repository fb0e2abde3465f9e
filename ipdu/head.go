package ipdu

import "headgate/fields"

// Where the numbers of a head stand that all messages have.
const (
	firstAt    = 0 // the kind, and whether the message is urgent
	flagsAt    = 1
	zeroAt     = 4 // must be 0
	lengthAt   = 5
	lengthSize = 3
	tagAt      = 16
	headSize   = 48
)

const (
	byteSize = 1
	wordSize = 4
)

// The bits of a head's first byte.
const (
	kindBits  = 6 // the lowest ones
	urgentBit = 6
	unusedBit = 7 // must be 0
)

// number is a number v in so many bytes of a head, from at on.
type number struct {
	at, size int
	v        uint64
}

// set is the head with the number in it, or the head itself if it does not have these bytes.
func (n number) set(head string) string {
	if with, ok := fields.Set(head, n.at, fields.PutBig(n.v, n.size)); ok {
		return with
	}
	return head
}

// after is the head that is left after all these steps, one by one.
func after(head string, steps ...func(head string) string) string {
	for _, step := range steps {
		head = step(head)
	}
	return head
}

// read is the number in so many bytes of a head, or 0 if it does not have them.
func read(head string, at, size int) uint64 {
	v, _ := fields.Big(head, at, size)
	return v
}

func firstByte(kind int, urgent bool) uint64 {
	b := fields.Bits(uint64(kind), 0, kindBits)
	if urgent {
		b |= 1 << urgentBit
	}
	return b
}

// isHead tells whether a message may have this head, whatever its length of Data.
func isHead(head string) bool {
	return len(head) == headSize && !fields.Bit(read(head, firstAt, byteSize), unusedBit) && head[zeroAt] == 0
}
