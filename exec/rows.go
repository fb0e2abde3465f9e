package exec

import (
	"slices"

	"headgate/api"
)

// row is an operation. Its first two fields may be nil: then every command may be, or it is about no blocks.
type row struct {
	sound  func(c api.Cmd) bool
	ranges func(c api.Cmd) []api.Range      // the blocks that must be there
	effect func(x *Exec, c api.Cmd) api.Out // on a unit that is there, and of a host that may
}

// rows are by the number of the operation; one without an effect is none.
type rows [api.OpSize + 1]row

func (x *Exec) prepare() {
	x.rows = rows{
		api.OpReady:    {effect: (*Exec).ready},
		api.OpRead:     {sound: isRead, ranges: countedRange, effect: (*Exec).read},
		api.OpWrite:    {sound: isWrite, ranges: dataRange, effect: (*Exec).write},
		api.OpFlush:    {effect: (*Exec).flush},
		api.OpUnmap:    {sound: isUnmap, ranges: ownRanges, effect: (*Exec).unmap},
		api.OpZero:     {sound: isZero, ranges: countedRange, effect: (*Exec).zero},
		api.OpCompare:  {sound: isCompare, ranges: halfRange, effect: (*Exec).compare},
		api.OpRegister: {effect: (*Exec).changeTable},
		api.OpReserve:  {effect: (*Exec).changeTable},
		api.OpRelease:  {effect: (*Exec).changeTable},
		api.OpClear:    {effect: (*Exec).changeTable},
		api.OpPreempt:  {effect: (*Exec).changeTable},
		api.OpKeys:     {effect: (*Exec).keys},
		api.OpHolder:   {effect: (*Exec).holder},
		api.OpSize:     {effect: (*Exec).size},
	}
}

// isSound tells whether the command may be at all, wherever its blocks are.
func (r row) isSound(c api.Cmd) bool { return r.sound == nil || r.sound(c) }

// isWithin tells whether the command's blocks are blocks of a unit of that size.
func (r row) isWithin(c api.Cmd, size int) bool {
	if r.ranges == nil {
		return true
	}
	return !slices.ContainsFunc(r.ranges(c), func(l api.Range) bool { return !within(size, l) })
}

func within(size int, r api.Range) bool {
	// Lba + Blocks could wrap round, so the room behind Lba is asked instead.
	return r.Lba >= 0 && r.Blocks >= 0 && r.Blocks <= size-r.Lba
}

func isRead(c api.Cmd) bool { return c.Blocks >= 0 && c.Blocks <= api.MaxXfer }

func isZero(c api.Cmd) bool { return c.Blocks >= 0 && c.Blocks <= api.MaxBlocks }

func isUnmap(c api.Cmd) bool { return len(c.Ranges) <= api.MaxRanges }

func isWrite(c api.Cmd) bool {
	return len(c.Data)%api.Sector == 0 && len(c.Data) <= api.MaxXfer*api.Sector
}

// isCompare tells whether the data are two halves of as many blocks.
func isCompare(c api.Cmd) bool { return isWrite(c) && len(c.Data)%(2*api.Sector) == 0 }

func countedRange(c api.Cmd) []api.Range { return []api.Range{{Lba: c.Lba, Blocks: c.Blocks}} }

func dataRange(c api.Cmd) []api.Range {
	return []api.Range{{Lba: c.Lba, Blocks: len(c.Data) / api.Sector}}
}

func halfRange(c api.Cmd) []api.Range {
	return []api.Range{{Lba: c.Lba, Blocks: len(c.Data) / 2 / api.Sector}}
}

func ownRanges(c api.Cmd) []api.Range { return c.Ranges }
