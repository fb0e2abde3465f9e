package resv

import (
	"slices"
	"strings"

	"headgate/access"
	"headgate/api"
)

// change is a command and the table that it changes, with the notifications so far.
type change struct {
	table  api.Table
	cmd    api.Cmd
	events []api.Event
}

// effects are what the operations do, by number. Each asks whether it may before it changes anything, so the table is
// as it was, and nobody is notified, if its code isn't Good.
func effects() map[int]func(*change) int {
	return map[int]func(*change) int{
		api.OpRegister: (*change).register,
		api.OpReserve:  (*change).reserve,
		api.OpRelease:  (*change).release,
		api.OpClear:    (*change).clear,
		api.OpPreempt:  (*change).preempt,
	}
}

func (x *change) register() int {
	at := indexOf(x.table.Regs, x.cmd.Host)
	switch {
	case !x.cmd.Ignore && x.cmd.Key != Key(x.table, x.cmd.Host):
		return api.Conflict
	case x.cmd.NewKey == 0:
		x.unregister()
	case at >= 0:
		x.table.Regs[at].Key = x.cmd.NewKey
		x.table.Gen++
	case len(x.table.Regs) == api.MaxHosts:
		return api.Broken
	default:
		x.table.Regs = append(x.table.Regs, api.Reg{Host: strings.Clone(x.cmd.Host), Key: x.cmd.NewKey})
		x.table.Gen++
	}
	x.setAptpl()
	return api.Good
}

func (x *change) reserve() int {
	hold := x.table.Hold
	switch {
	case !access.Type(x.cmd.Type):
		return api.Wrong
	case !x.isRegistered():
		return api.Conflict
	case hold.Type == 0:
		x.hold()
		return api.Good
	case hold.Type == x.cmd.Type && access.Holds(x.table, x.cmd.Host):
		return api.Good
	}
	return api.Conflict
}

func (x *change) release() int {
	switch {
	case !x.isRegistered():
		return api.Conflict
	case !access.Holds(x.table, x.cmd.Host):
		return api.Good
	case x.cmd.Type != x.table.Hold.Type:
		return api.Wrong
	}
	x.end()
	return api.Good
}

func (x *change) clear() int {
	if !x.isRegistered() {
		return api.Conflict
	}
	x.notify(api.WhyCleared, x.isOther)
	x.table.Regs = nil
	x.table.Hold = api.Hold{}
	x.table.Gen++
	return api.Good
}

func (x *change) preempt() int {
	if !access.Type(x.cmd.Type) {
		return api.Wrong
	}
	if !x.isRegistered() {
		return api.Conflict
	}
	takes := x.takesOver()
	if !takes && x.cmd.Other == 0 {
		return api.Wrong
	}
	if !takes && !slices.ContainsFunc(x.table.Regs, x.removes) {
		return api.Conflict
	}
	x.notify(api.WhyPreempted, x.removes)
	x.table.Regs = slices.DeleteFunc(x.table.Regs, x.removes)
	x.table.Gen++
	if takes {
		x.hold()
	}
	return api.Good
}

// isRegistered tells whether the requester is registered with the command's key.
func (x *change) isRegistered() bool {
	// Key 0 would be that of a host that is not registered.
	return x.cmd.Key != 0 && x.cmd.Key == Key(x.table, x.cmd.Host)
}

// isOther tells whether a registrant is another host than the requester.
func (x *change) isOther(r api.Reg) bool { return r.Host != x.cmd.Host }

// removes tells whether preempting takes a registration away.
func (x *change) removes(r api.Reg) bool {
	return x.isOther(r) && (r.Key == x.cmd.Other || x.preemptsAll())
}

// preemptsAll tells whether preempting is meant for all who share the reservation.
func (x *change) preemptsAll() bool { return x.cmd.Other == 0 && isShared(x.table.Hold.Type) }

// takesOver tells whether preempting makes the reservation the requester's.
func (x *change) takesOver() bool {
	hold := x.table.Hold
	switch {
	case hold.Type == 0:
		return false
	case isShared(hold.Type):
		return x.cmd.Other == 0
	}
	return Key(x.table, hold.Host) == x.cmd.Other
}

// unregister takes the requester's registration away, if there is one, and the reservation with it if nobody is left who
// holds it.
func (x *change) unregister() {
	at := indexOf(x.table.Regs, x.cmd.Host)
	if at < 0 {
		return
	}
	x.table.Regs = slices.Delete(x.table.Regs, at, at+1)
	x.table.Gen++
	if x.table.Hold.Host == x.cmd.Host || len(x.table.Regs) == 0 {
		x.end()
	}
}

// hold makes the reservation one of the command's type, and the requester's.
func (x *change) hold() {
	x.table.Hold = api.Hold{Type: x.cmd.Type}
	if !isShared(x.cmd.Type) {
		x.table.Hold.Host = strings.Clone(x.cmd.Host)
	}
}

// end ends the reservation. Others are notified unless its type gave them no more than any other host.
func (x *change) end() {
	if typ := x.table.Hold.Type; typ != api.WriteExclusive && typ != api.Exclusive {
		x.notify(api.WhyReleased, x.isOther)
	}
	x.table.Hold = api.Hold{}
}

// notify adds an event for each registrant that is meant.
func (x *change) notify(why int, meant func(api.Reg) bool) {
	for _, r := range x.table.Regs {
		if meant(r) {
			x.events = append(x.events, api.Event{Host: strings.Clone(r.Host), Why: why})
		}
	}
}

func (x *change) setAptpl() {
	switch x.cmd.Aptpl {
	case api.AptplOff:
		x.table.Aptpl = false
	case api.AptplOn:
		x.table.Aptpl = true
	}
}
