package journal

import (
	"headgate/api"
	"headgate/dev"
	"headgate/fields"
)

const (
	slots = 4 // sectors in which heads stand by turns, so that a new one never replaces the last one
	least = 8 // sectors of an area
)

// A head begins with a mark, the state's number, and its words, and ends with the number once more.
const (
	mark       = "HGJH"
	numberSize = 8
	wordSize   = 4
	halfAt     = len(mark) + numberSize + 2*wordSize
	recordsAt  = halfAt + wordSize
	againAt    = api.Sector - numberSize
)

// area is the sectors of a device that a journal uses: the slots, and two halves, each with room for a whole state, so
// that a new base is written beside the state that it replaces.
type area struct {
	d             *dev.Dev
	from, sectors int
}

// fits tells whether a journal can stand there.
func (a area) fits() bool {
	// from + sectors could wrap round, so the room behind from is asked instead.
	return a.d != nil && a.from >= 0 && a.sectors >= least && a.sectors <= a.d.Size()-a.from
}

// size is how many sectors a half has.
func (a area) size() int { return (a.sectors - slots) / 2 }

// half is where a half begins.
func (a area) half(half int) int { return a.from + slots + half*a.size() }

// slot is where the head with this number stands.
func (a area) slot(number uint64) int { return a.from + int(number%slots) }

// head tells what a state is: its frames are the first ones of a half, the base's and so many records'.
type head struct {
	number  uint64 // of the state, from 1 on
	half    int
	records int
}

// sector is the head as it stands in its slot.
//
// That a head is whole must not be left to a checksum, which what is torn may have by chance. A torn write leaves the
// first bytes of the new head before the last ones of what its slot had, and no head with the new number was ever whole
// there. So the same number stands at both ends of a sector only if all of it is of one head.
func (a area) sector(h head) string {
	s := mark + fields.PutBig(h.number, numberSize)
	for _, word := range [...]int{a.from, a.sectors, h.half, h.records} {
		s += fields.PutBig(uint64(word), wordSize)
	}
	return fields.Pad(s, againAt) + fields.PutBig(h.number, numberSize)
}

// head is the head that this sector is in its slot of this area.
func (a area) head(slot int, sector string) (head, bool) {
	number, _ := fields.Big(sector, againAt, numberSize)
	half, _ := fields.Big(sector, halfAt, wordSize)
	records, _ := fields.Big(sector, recordsAt, wordSize)
	h := head{number: number, half: int(half), records: int(records)}
	ok := a.sector(h) == sector && a.slot(number) == a.from+slot && half < 2
	return h, ok
}

// last is the head of the last state whose head is whole.
func (a area) last() (head, api.Errno) {
	s, err := a.d.Read(a.from, slots)
	if err != api.OK {
		return head{}, err
	}
	best := head{}
	for slot := range slots {
		h, ok := a.head(slot, s[slot*api.Sector:(slot+1)*api.Sector])
		if ok && h.number > best.number {
			best = h
		}
	}
	if best.number == 0 {
		return head{}, api.ErrImage
	}
	return best, api.OK
}
