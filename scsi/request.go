package scsi

import (
	"headgate/api"
	"headgate/cdb"
	"headgate/exec"
	"headgate/inquiry"
	"headgate/prout"
	"headgate/sense"
)

// The first bytes of blocks.
const (
	ready      = 0x00
	inquire    = 0x12
	capacity   = 0x25
	shortRead  = 0x28
	shortWrite = 0x2a
	flush      = 0x35
	unmap      = 0x42
	query      = 0x5e
	change     = 0x5f
	longRead   = 0x88
	compare    = 0x89
	longWrite  = 0x8a
	zero       = 0x93
	list       = 0xa0
)

// actionSpan times the first byte, and the action, is the Op of an Ask with an action.
const actionSpan = 256

// The actions of a query.
const (
	askKeys   = 0
	askHolder = 1
)

const shortestList = 16 // bytes that must be wanted of the list of units

// request is what a host asks for with a block.
type request struct {
	x    *exec.Exec
	host string
	lun  int
	ask  cdb.Ask
	data string
	most int // bytes of data that are returned
}

// reports answer, by the first byte of the block, what is asked about the units themselves, whatever the host must be told.
func reports() map[byte]func(request) api.Reply {
	return map[byte]func(request) api.Reply{
		inquire: request.page,
		list:    request.list,
	}
}

// makers make, by the first byte of the block, the command that it asks for, unless its data are no list of such a command.
// They leave the host and the unit out.
func makers() map[byte]func(request) (api.Cmd, bool) {
	return map[byte]func(request) (api.Cmd, bool){
		ready:      request.ready,
		capacity:   request.size,
		shortRead:  request.read,
		longRead:   request.read,
		shortWrite: request.write,
		longWrite:  request.write,
		flush:      request.flush,
		unmap:      request.unmap,
		compare:    request.compare,
		zero:       request.zero,
		query:      request.query,
		change:     request.change,
	}
}

// execute makes the command and executes it, unless its unit is not there or the host must be told something first.
func (r request) execute(maker func(request) (api.Cmd, bool)) api.Reply {
	if _, there := r.unit(); !there {
		return failed(api.NoUnit)
	}
	if why, pending := r.x.Units().Take(r.lun, r.host); pending {
		return replyOf(api.Out{Code: api.Told, Why: why}, "")
	}
	c, ok := maker(r)
	if !ok {
		return failed(api.Wrong)
	}
	c.Host, c.Lun = r.host, r.lun
	o := r.x.Do(c)
	if o.Code != api.Good {
		return replyOf(o, "")
	}
	return r.done(dataOf(c.Op, o))
}

func (r request) page() api.Reply {
	u, there := r.unit()
	text, err := inquiry.Page(u, there, r.ask.Page)
	if err != api.OK {
		return failed(api.Wrong)
	}
	return r.done(text)
}

func (r request) list() api.Reply {
	if r.ask.Want < shortestList {
		return failed(api.Wrong)
	}
	return r.done(inquiry.List(len(r.units())))
}

func (r request) ready() (api.Cmd, bool) { return api.Cmd{Op: api.OpReady}, true }

func (r request) size() (api.Cmd, bool) { return api.Cmd{Op: api.OpSize}, true }

func (r request) flush() (api.Cmd, bool) { return api.Cmd{Op: api.OpFlush}, true }

func (r request) read() (api.Cmd, bool) {
	return api.Cmd{Op: api.OpRead, Lba: r.ask.Lba, Blocks: r.ask.Blocks}, true
}

func (r request) write() (api.Cmd, bool) {
	return api.Cmd{Op: api.OpWrite, Lba: r.ask.Lba, Data: r.data, Fua: r.ask.Fua}, true
}

func (r request) compare() (api.Cmd, bool) {
	return api.Cmd{Op: api.OpCompare, Lba: r.ask.Lba, Data: r.data}, true
}

func (r request) zero() (api.Cmd, bool) {
	return api.Cmd{Op: api.OpZero, Lba: r.ask.Lba, Blocks: r.ask.Blocks}, true
}

func (r request) unmap() (api.Cmd, bool) {
	l, err := inquiry.Ranges(r.data)
	return api.Cmd{Op: api.OpUnmap, Ranges: l}, err == api.OK
}

func (r request) query() (api.Cmd, bool) {
	if r.action() == askHolder {
		return api.Cmd{Op: api.OpHolder}, true
	}
	return api.Cmd{Op: api.OpKeys}, true
}

func (r request) change() (api.Cmd, bool) {
	c, err := prout.Change(r.action(), r.ask.Type, r.data)
	return c, err == api.OK
}

// action is that of a query or a change.
func (r request) action() int { return r.ask.Op % actionSpan }

func (r request) units() []api.Unit { return r.x.Cache().Store().Units() }

// unit is the unit that the request is for, if it is there.
func (r request) unit() (api.Unit, bool) {
	l := r.units()
	if r.lun < 0 || r.lun >= len(l) {
		return api.Unit{}, false
	}
	return l[r.lun], true
}

// done is the reply of a request that succeeded with these data.
func (r request) done(data string) api.Reply {
	return replyOf(api.Out{Code: api.Good}, data[:min(len(data), r.most)])
}

// failed is the reply for an outcome that is told by its code alone.
func failed(code int) api.Reply { return replyOf(api.Out{Code: code}, "") }

func replyOf(o api.Out, data string) api.Reply {
	status, x := sense.Of(o)
	return api.Reply{Status: status, Sense: x, Data: data}
}
