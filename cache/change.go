package cache

import (
	"slices"
	"strings"

	"headgate/api"
	"headgate/store"
)

// change is what is done to blocks of a unit.
type change struct {
	lun    int
	ranges []api.Range
	clears bool
	data   string // of a change that doesn't clear: what its one range is to contain
}

// Both keep copies: the ranges are the caller's to change, and data may be a small piece of a long text.
func writing(lun int, r api.Range, data string) change {
	return change{lun: lun, ranges: []api.Range{r}, data: strings.Clone(data)}
}

func clearing(lun int, l []api.Range) change {
	return change{lun: lun, ranges: slices.Clone(l), clears: true}
}

// blocks is how many blocks it changes; one that stands in two ranges counts twice.
func (x change) blocks() int {
	n := 0
	for _, r := range x.ranges {
		n += r.Blocks
	}
	return n
}

// on makes the change on a store.
func (x change) on(s *store.Store) api.Errno {
	if x.clears {
		return s.Clear(x.lun, x.ranges)
	}
	return s.Write(x.lun, x.ranges[0].Lba, x.data)
}

// view is blocks of a unit from lba on that are to be read.
type view struct {
	lba   int
	bytes []byte // zeros where a block is not known
	known []bool // of each block
}

func newView(lba, blocks int) view {
	return view{lba, make([]byte, blocks*api.Sector), make([]bool, blocks)}
}

// take takes what a change makes of the blocks that are not known yet, and tells how many these are.
func (v view) take(x change) int {
	n := 0
	for _, r := range x.ranges {
		from, end := max(r.Lba, v.lba), min(r.Lba+r.Blocks, v.lba+len(v.known))
		for lba := from; lba < end; lba++ {
			i := lba - v.lba
			if v.known[i] {
				continue
			}
			v.known[i] = true
			n++
			if !x.clears {
				v.put(i, x.data[(lba-r.Lba)*api.Sector:][:api.Sector])
			}
		}
	}
	return n
}

// fill reads the blocks that are not known from the store, those beside each other at once.
func (v view) fill(s *store.Store, lun int) api.Errno {
	end := 0
	for i, known := range v.known {
		if known || i < end {
			continue
		}
		end = i + gap(v.known[i:])
		data, err := s.Read(lun, v.lba+i, end-i)
		if err != api.OK {
			return err
		}
		v.put(i, data)
	}
	return api.OK
}

// gap is how many blocks are not known ahead of the first one that is.
func gap(known []bool) int {
	if n := slices.Index(known, true); n >= 0 {
		return n
	}
	return len(known)
}

// put makes data the contents from the block i on.
func (v view) put(i int, data string) { copy(v.bytes[i*api.Sector:], data) }
