package resv

import (
	"slices"
	"strings"

	"headgate/api"
)

// model is a unit's table in the chapter's words: who is registered, in order, with which keys, and who holds what.
type model struct {
	hosts []string
	keys  map[string]uint64
	typ   int
	alone string // who holds a reservation of the types 1 to 4
	gen   uint64
	aptpl bool
}

func modelOf(t api.Table) *model {
	m := &model{keys: map[string]uint64{}, typ: t.Hold.Type, alone: t.Hold.Host, gen: uint64(t.Gen), aptpl: t.Aptpl}
	for _, r := range t.Regs {
		m.hosts = append(m.hosts, r.Host)
		m.keys[r.Host] = r.Key
	}
	return m
}

func (m *model) table() api.Table {
	t := api.Table{Hold: api.Hold{Type: m.typ, Host: m.alone}, Gen: uint32(m.gen % (1 << 32)), Aptpl: m.aptpl}
	for _, h := range m.hosts {
		t.Regs = append(t.Regs, api.Reg{Host: h, Key: m.keys[h]})
	}
	return t
}

// modelName is chapter 3's name.
func modelName(s string) bool {
	const letters, others = "abcdefghijklmnopqrstuvwxyz", "0123456789.-:"
	if len(s) < 1 || len(s) > 64 || !strings.Contains(letters, s[:1]) {
		return false
	}
	return strings.Trim(s, letters+others) == ""
}

// modelGood is "A table is good" in the chapter's words.
func modelGood(t api.Table) bool {
	if len(t.Regs) > 16 {
		return false
	}
	times := map[string]int{}
	for _, r := range t.Regs {
		if times[r.Host]++; times[r.Host] > 1 || r.Key == 0 || !modelName(r.Host) {
			return false
		}
	}
	switch t.Hold.Type {
	case 0:
		return t.Hold.Host == ""
	case 5, 6:
		return t.Hold.Host == "" && len(t.Regs) >= 1
	case 1, 2, 3, 4:
		return times[t.Hold.Host] == 1
	}
	return false
}

func (m *model) drop(host string) {
	m.hosts = slices.DeleteFunc(m.hosts, func(h string) bool { return h == host })
	delete(m.keys, host)
}

func (m *model) holds(host string) bool {
	_, registered := m.keys[host]
	return m.typ >= 5 && registered || m.typ >= 1 && m.typ <= 4 && m.alone == host
}

func (m *model) reserve(typ int, host string) {
	m.typ, m.alone = typ, host
	if typ == 5 || typ == 6 {
		m.alone = ""
	}
}

// events tell why to all of hosts but the requester.
func events(hosts []string, requester string, why int) []api.Event {
	var l []api.Event
	for _, h := range hosts {
		if h != requester {
			l = append(l, api.Event{Host: h, Why: why})
		}
	}
	return l
}

// modelDo is P11.2 in the chapter's words.
func modelDo(t api.Table, c api.Cmd) (api.Table, []api.Event, int) {
	if !modelGood(t) || !modelName(c.Host) || c.Op < 8 || c.Op > 12 {
		return t, nil, api.Wrong
	}
	m := modelOf(t)
	var l []api.Event
	var code int
	switch c.Op {
	case 8:
		l, code = m.doRegister(c)
	case 9:
		code = m.doReserve(c)
	case 10:
		l, code = m.doRelease(c)
	case 11:
		l, code = m.doClear(c)
	case 12:
		l, code = m.doPreempt(c)
	}
	if code != api.Good {
		return t, nil, code
	}
	return m.table(), l, code
}

func (m *model) doRegister(c api.Cmd) (l []api.Event, code int) {
	key, registered := m.keys[c.Host]
	if !c.Ignore && c.Key != key {
		return nil, api.Conflict
	}
	if c.NewKey == 0 && registered {
		held := m.holds(c.Host)
		m.drop(c.Host)
		m.gen++
		if held && (m.typ <= 4 || len(m.hosts) == 0) {
			if m.typ == 3 || m.typ == 4 {
				l = events(m.hosts, "", api.WhyReleased)
			}
			m.typ, m.alone = 0, ""
		}
	}
	if c.NewKey != 0 {
		if !registered && len(m.hosts)+1 > 16 {
			return nil, api.Broken
		}
		if !registered {
			m.hosts = append(m.hosts, c.Host)
		}
		m.keys[c.Host] = c.NewKey
		m.gen++
	}
	if c.Aptpl == 1 || c.Aptpl == 2 {
		m.aptpl = c.Aptpl == 2
	}
	return l, api.Good
}

// lacks tells that the requester must be registered and is not.
func (m *model) lacks(c api.Cmd) bool {
	key, registered := m.keys[c.Host]
	return !registered || key != c.Key
}

func (m *model) doReserve(c api.Cmd) int {
	if c.Type < 1 || c.Type > 6 {
		return api.Wrong
	}
	if m.lacks(c) {
		return api.Conflict
	}
	if m.typ == 0 {
		m.reserve(c.Type, c.Host)
		return api.Good
	}
	if m.typ == c.Type && m.holds(c.Host) {
		return api.Good
	}
	return api.Conflict
}

func (m *model) doRelease(c api.Cmd) (l []api.Event, code int) {
	if m.lacks(c) {
		return nil, api.Conflict
	}
	if !m.holds(c.Host) {
		return nil, api.Good
	}
	if m.typ != c.Type {
		return nil, api.Wrong
	}
	if m.typ >= 3 {
		l = events(m.hosts, c.Host, api.WhyReleased)
	}
	m.typ, m.alone = 0, ""
	return l, api.Good
}

func (m *model) doClear(c api.Cmd) ([]api.Event, int) {
	if m.lacks(c) {
		return nil, api.Conflict
	}
	l := events(m.hosts, c.Host, api.WhyCleared)
	*m = model{gen: m.gen + 1, aptpl: m.aptpl}
	return l, api.Good
}

func (m *model) doPreempt(c api.Cmd) ([]api.Event, int) {
	if c.Type < 1 || c.Type > 6 {
		return nil, api.Wrong
	}
	if m.lacks(c) {
		return nil, api.Conflict
	}
	shared := (m.typ == 5 || m.typ == 6) && c.Other == 0
	var removed []string
	for _, h := range m.hosts {
		if h != c.Host && (m.keys[h] == c.Other || shared) {
			removed = append(removed, h)
		}
	}
	taken := shared || m.typ >= 1 && m.typ <= 4 && m.keys[m.alone] == c.Other
	if c.Other == 0 && !taken {
		return nil, api.Wrong
	}
	if len(removed) == 0 && !taken {
		return nil, api.Conflict
	}
	for _, h := range removed {
		m.drop(h)
	}
	m.gen++
	if taken {
		m.reserve(c.Type, c.Host)
	}
	return events(removed, "", api.WhyPreempted), api.Good
}
