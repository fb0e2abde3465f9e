package scsi

import (
	"slices"

	"headgate/api"
	"headgate/cdb"
	"headgate/inquiry"
	"headgate/prout"
)

const wanted = 65535 // bytes of the keys and of the holder that are asked for: as many as a query can want

// requestOf is the request that comes nearest to asking for the command c. It tells false if c is about more blocks than may
// be asked for at once, or if there is no list for it.
func requestOf(c api.Cmd) (request, bool) {
	blocks := len(c.Data) / api.Sector
	switch c.Op {
	case api.OpReady:
		return request{ask: cdb.Ask{Op: ready}}, true
	case api.OpSize:
		return request{ask: cdb.Ask{Op: capacity}}, true
	case api.OpFlush:
		return request{ask: cdb.Ask{Op: flush}}, true
	case api.OpRead:
		return request{ask: cdb.Ask{Op: longRead, Lba: c.Lba, Blocks: c.Blocks}}, c.Blocks <= api.MaxXfer
	case api.OpWrite:
		return request{ask: cdb.Ask{Op: longWrite, Lba: c.Lba, Blocks: blocks, Fua: c.Fua}, data: c.Data}, blocks <= api.MaxXfer
	case api.OpZero:
		return request{ask: cdb.Ask{Op: zero, Lba: c.Lba, Blocks: c.Blocks}}, true
	case api.OpCompare:
		return request{ask: cdb.Ask{Op: compare, Lba: c.Lba, Blocks: blocks / 2}, data: c.Data}, blocks <= api.MaxXfer
	case api.OpUnmap:
		s, err := inquiry.Unmap(c.Ranges)
		return request{ask: cdb.Ask{Op: unmap, Want: len(s)}, data: s}, err == api.OK
	case api.OpKeys:
		return request{ask: cdb.Ask{Op: opOf(query, askKeys), Want: wanted}}, true
	case api.OpHolder:
		return request{ask: cdb.Ask{Op: opOf(query, askHolder), Want: wanted}}, true
	}
	// What isn't a change of reservations either has no list.
	action, s, err := prout.List(c)
	return request{ask: cdb.Ask{Op: opOf(change, action), Want: len(s), Type: c.Type}, data: s}, err == api.OK
}

// opOf is the Op of an Ask with an action.
func opOf(first, action int) int { return actionSpan*first + action }

// same tells whether two commands are the same.
func same(a, b api.Cmd) bool {
	return a.Op == b.Op && a.Lun == b.Lun && a.Host == b.Host &&
		a.Lba == b.Lba && a.Blocks == b.Blocks && a.Data == b.Data && a.Fua == b.Fua &&
		slices.Equal(a.Ranges, b.Ranges) &&
		a.Key == b.Key && a.NewKey == b.NewKey && a.Other == b.Other &&
		a.Type == b.Type && a.Ignore == b.Ignore && a.Aptpl == b.Aptpl
}
