package units

import (
	"slices"
	"testing"

	"headgate/api"
	"headgate/names"
)

// note is one notification of the model.
type note struct {
	lun  int
	host string
	why  int
}

// model is the chapter's words: all notifications of all hosts and units in one list, in the order in which they were
// added.
type model []note

func (m model) at(lun int, host string) []int {
	var l []int
	for i, n := range m {
		if n.lun == lun && n.host == host {
			l = append(l, i)
		}
	}
	return l
}

func (m *model) add(lun int, host string, why int) bool {
	if lun < 0 || lun > 7 || !names.Name(host) || why < 1 || why > 4 {
		return false
	}
	l := m.at(lun, host)
	if n := len(l); n > 0 && (*m)[l[n-1]].why == why {
		return false
	}
	if len(l) == 8 {
		*m = slices.Delete(*m, l[0], l[0]+1)
	}
	*m = append(*m, note{lun, host, why})
	return true
}

func (m *model) take(lun int, host string) (int, bool) {
	l := m.at(lun, host)
	if len(l) == 0 {
		return 0, false
	}
	why := (*m)[l[0]].why
	*m = slices.Delete(*m, l[0], l[0]+1)
	return why, true
}

func (m *model) forget(host string) {
	*m = slices.DeleteFunc(*m, func(n note) bool { return n.host == host })
}

func (m model) hosts(lun int) []string {
	var l []string
	for _, n := range m {
		if n.lun == lun && !slices.Contains(l, n.host) {
			l = append(l, n.host)
		}
	}
	slices.Sort(l)
	return l
}

// act is one call, of the kind A, T or F.
type act struct {
	kind byte
	lun  int
	host string
	why  int
}

// both are a value and its model, which are given the same calls.
type both struct {
	u *Units
	m model
}

func (b *both) do(t *testing.T, a act) {
	t.Helper()
	switch a.kind {
	case 'A':
		want := b.m.add(a.lun, a.host, a.why)
		if got := b.u.Add(a.lun, a.host, a.why); got != want {
			t.Errorf("Add(%d, %q, %d): %v behind %v", a.lun, a.host, a.why, got, b.m)
		}
	case 'T':
		want, wantOk := b.m.take(a.lun, a.host)
		if got, ok := b.u.Take(a.lun, a.host); got != want || ok != wantOk {
			t.Errorf("Take(%d, %q): %d, %v, want %d, %v", a.lun, a.host, got, ok, want, wantOk)
		}
	case 'F':
		b.m.forget(a.host)
		b.u.Forget(a.host)
	}
}

// agree asks whether the value tells the same as its model of these hosts, at all units and beside them.
func (b *both) agree(t *testing.T, hosts []string) {
	t.Helper()
	for lun := -1; lun <= api.MaxLuns; lun++ {
		if got, want := b.u.Hosts(lun), b.m.hosts(lun); !slices.Equal(got, want) {
			t.Errorf("Hosts(%d): %q, want %q", lun, got, want)
		}
		for _, host := range hosts {
			if got, want := b.u.Wait(lun, host), len(b.m.at(lun, host)); got != want {
				t.Errorf("Wait(%d, %q): %d, want %d", lun, host, got, want)
			}
		}
	}
}

// empty takes all that is pending.
func (b *both) empty(t *testing.T) {
	t.Helper()
	for lun := range api.MaxLuns {
		for _, host := range b.m.hosts(lun) {
			for range len(b.m.at(lun, host)) + 1 {
				b.do(t, act{'T', lun, host, 0})
			}
		}
	}
	if len(b.m) != 0 {
		t.Errorf("%v is still pending", b.m)
	}
	b.agree(t, nil)
}
