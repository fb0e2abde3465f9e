package exec

import (
	"slices"

	"headgate/api"
	"headgate/image"
	"headgate/resv"
)

// The effects ask nothing that the rows have asked before.

func (x *Exec) ready(api.Cmd) api.Out { return api.Out{Code: api.Good} }

func (x *Exec) size(c api.Cmd) api.Out { return api.Out{Code: api.Good, N: x.blocks(c.Lun)} }

func (x *Exec) read(c api.Cmd) api.Out {
	data, err := x.cache.Read(c.Lun, c.Lba, c.Blocks)
	return api.Out{Code: codeOf(err), Data: data}
}

func (x *Exec) write(c api.Cmd) api.Out { return outOf(x.cache.Write(c.Lun, c.Lba, c.Data, c.Fua)) }

func (x *Exec) flush(api.Cmd) api.Out { return outOf(x.cache.Flush()) }

func (x *Exec) unmap(c api.Cmd) api.Out { return outOf(x.cache.Clear(c.Lun, c.Ranges)) }

func (x *Exec) zero(c api.Cmd) api.Out { return outOf(x.cache.Clear(c.Lun, countedRange(c))) }

func (x *Exec) compare(c api.Cmd) api.Out {
	half := len(c.Data) / 2
	there, err := x.cache.Read(c.Lun, c.Lba, half/api.Sector)
	if err != api.OK {
		return outOf(err)
	}
	if at := firstDifference(there, c.Data[:half]); at >= 0 {
		return api.Out{Code: api.Differ, At: at}
	}
	return outOf(x.cache.Write(c.Lun, c.Lba, c.Data[half:], false))
}

// changeTable executes all operations that change a table.
func (x *Exec) changeTable(c api.Cmd) api.Out {
	before := x.tables[c.Lun]
	after, events, code := resv.Do(before, c)
	if code != api.Good || same(before, after) {
		return api.Out{Code: code}
	}
	if err := x.record(c.Lun, before, after); err != api.OK {
		return outOf(err)
	}
	x.tables[c.Lun] = after
	for _, e := range events {
		x.units.Add(c.Lun, e.Host, e.Why)
	}
	return api.Out{Code: api.Good}
}

// record stores what a loss of power is to leave of a unit's table. Of one that it leaves nothing of, nothing is stored,
// unless there is an image that has to go.
func (x *Exec) record(lun int, before, after api.Table) api.Errno {
	switch {
	case after.Aptpl:
		text, err := image.Encode(after)
		if err != api.OK {
			return err
		}
		return x.cache.Record(lun, text)
	case before.Aptpl:
		return x.cache.Record(lun, "")
	}
	return api.OK
}

func (x *Exec) keys(c api.Cmd) api.Out {
	t := x.Table(c.Lun)
	return api.Out{Code: api.Good, Regs: t.Regs, Gen: t.Gen}
}

func (x *Exec) holder(c api.Cmd) api.Out {
	t := x.Table(c.Lun)
	if t.Hold.Type == 0 {
		t.Regs = nil
	}
	return api.Out{Code: api.Good, Regs: t.Regs, Gen: t.Gen, Hold: t.Hold}
}

// outOf is what a command comes to that ends with this error of the cache, and tells nothing else.
func outOf(err api.Errno) api.Out { return api.Out{Code: codeOf(err)} }

func codeOf(err api.Errno) int {
	if err != api.OK {
		return api.Broken
	}
	return api.Good
}

func same(a, b api.Table) bool {
	return slices.Equal(a.Regs, b.Regs) && a.Hold == b.Hold && a.Gen == b.Gen && a.Aptpl == b.Aptpl
}

// firstDifference is the index of the first byte in which texts of one length differ, or -1.
func firstDifference(a, b string) int {
	for i := range len(a) {
		if a[i] != b[i] {
			return i
		}
	}
	return -1
}
