package store

import (
	"headgate/api"
	"headgate/extents"
)

// place is a sector in which a block may be stored.
type place struct {
	used  bool
	freed uint64 // the last change by which a block left it
}

// space is the sectors behind the journal.
type space []place

// find is where blocks from lba on can be stored: in sectors that neither the current state uses, nor one before it to
// which a crash can lead back, which are those since the change that is safe.
func (p space) find(lba, blocks int, safe uint64) ([]api.Extent, bool) {
	var l []api.Extent
	left := blocks
	for i, x := range p {
		if left == 0 {
			break
		}
		if !x.used && x.freed <= safe {
			l, _ = extents.Set(l, api.Extent{Lba: lba + blocks - left, Blocks: 1, At: journalSize + i})
			left--
		}
	}
	return l, left == 0
}

// use marks the sectors of these extents as used, and tells whether all of them are there and were not used before.
func (p space) use(l []api.Extent) bool {
	for _, x := range l {
		for at := x.At; at < x.At+x.Blocks; at++ {
			i := at - journalSize
			if i < 0 || i >= len(p) || p[i].used {
				return false
			}
			p[i].used = true
		}
	}
	return true
}

// free marks the sectors of these extents as left by the change with this number.
func (p space) free(l []api.Extent, number uint64) {
	for _, x := range l {
		for at := x.At; at < x.At+x.Blocks; at++ {
			p[at-journalSize] = place{freed: number}
		}
	}
}
