package prout

import (
	"slices"

	"headgate/api"
)

// place is what the second key of a list stands for.
type place int

const (
	nothing place = iota // it must be 0
	newKey
	other
)

// kind is what the changes with one action have in common.
type kind struct {
	op     int // 0: there is no such action
	second place
	typed  bool // they have a type
	stored bool // they tell whether the table is stored (Aptpl)
	ignore bool // the key doesn't matter
}

// kinds are those of all changes, by their actions.
func kinds() [7]kind {
	return [...]kind{
		0: {op: api.OpRegister, second: newKey, stored: true},
		1: {op: api.OpReserve, typed: true},
		2: {op: api.OpRelease, typed: true},
		3: {op: api.OpClear},
		4: {op: api.OpPreempt, second: other, typed: true},
		6: {op: api.OpRegister, second: newKey, stored: true, ignore: true},
	}
}

// kindOf is the kind of the changes with this action, if there are any.
func kindOf(action int) (kind, bool) {
	all := kinds()
	if action < 0 || action >= len(all) {
		return kind{}, false
	}
	return all[action], all[action].op != 0
}

// allows tells whether a change of this kind may have the type and the list.
func (k kind) allows(typ int, l list) bool {
	switch {
	case typ != 0 && !k.typed:
		return false
	case l.second != 0 && k.second == nothing:
		return false
	}
	return k.stored || !l.aptpl
}

// command is that of a change that the kind allows.
func (k kind) command(typ int, l list) api.Cmd {
	c := api.Cmd{Op: k.op, Key: l.key, Type: typ, Ignore: k.ignore}
	if k.ignore {
		c.Key = 0
	}
	switch k.second {
	case newKey:
		c.NewKey = l.second
	case other:
		c.Other = l.second
	}
	switch {
	case k.stored && l.aptpl:
		c.Aptpl = api.AptplOn
	case k.stored:
		c.Aptpl = api.AptplOff
	}
	return c
}

// list is that of a change of this kind which comes nearest to the command c.
func (k kind) list(c api.Cmd) list {
	l := list{key: c.Key, aptpl: c.Aptpl == api.AptplOn}
	switch k.second {
	case newKey:
		l.second = c.NewKey
	case other:
		l.second = c.Other
	}
	return l
}

// same tells whether two commands are the same.
func same(a, b api.Cmd) bool {
	return a.Op == b.Op && a.Lun == b.Lun && a.Host == b.Host &&
		a.Lba == b.Lba && a.Blocks == b.Blocks && a.Data == b.Data && a.Fua == b.Fua &&
		slices.Equal(a.Ranges, b.Ranges) &&
		a.Key == b.Key && a.NewKey == b.NewKey && a.Other == b.Other &&
		a.Type == b.Type && a.Ignore == b.Ignore && a.Aptpl == b.Aptpl
}
