package inquiry

import (
	"headgate/api"
	"headgate/fields"
)

// Sizes of the lists' parts.
const (
	headSize   = 8 // what stands ahead of the first unit or range
	unitSize   = 8
	rangeSize  = 16
	lbaSize    = 8
	blocksSize = 4
)

const (
	blockDevice = 0x00 // byte 0 of the standard page of a unit
	noDevice    = 0x7f // that of one where there is no unit
)

// part is something that stands in a page from the byte with the index at on.
type part struct {
	at   int
	text string
}

// number is the part that is a number of so many bytes.
func number(at, size, n int) part { return part{at, fields.PutBig(uint64(n), size)} }

// compose is so many bytes with these parts, and zeros where none of them stands.
func compose(size int, parts ...part) string {
	b := make([]byte, size)
	for _, p := range parts {
		copy(b[p.at:], p.text)
	}
	return string(b)
}

// numbered is compose of a page that begins with its number and with how many bytes follow.
func numbered(page, size int, parts ...part) string {
	const begin = 4
	return compose(size, append(parts, number(1, 1, page), number(2, 2, size-begin))...)
}

func standardBytes(there bool) string {
	device := blockDevice
	if !there {
		device = noDevice
	}
	return compose(36,
		number(0, 1, device),
		number(2, 1, 6),  // the version of the commands
		number(3, 1, 2),  // the format of the page
		number(4, 1, 31), // how many bytes follow
		part{8, "HEADGATE"},
		part{16, "BLOCK UNIT      "},
		part{32, "0001"},
	)
}

func pagesBytes() string {
	return numbered(pagesPage, 7, number(4, 1, pagesPage), number(5, 1, idPage), number(6, 1, limitsPage))
}

func idBytes(id string) string {
	return numbered(idPage, 8+idSize,
		number(4, 1, 1), // the Id is binary
		number(5, 1, 1), // and named by its maker
		number(7, 1, idSize),
		part{8, id},
	)
}

func limitsBytes() string {
	return numbered(limitsPage, 64,
		number(5, 1, api.MaxXfer/2), // a compare and write brings each block twice
		number(8, 4, api.MaxXfer),
		number(20, 4, api.MaxBlocks),
		number(24, 4, api.MaxRanges),
	)
}

// lbaAt and blocksAt are where the parts of range n stand in the list of an unmap.
func lbaAt(n int) int { return headSize + n*rangeSize }

func blocksAt(n int) int { return lbaAt(n) + lbaSize }
