package sense

import "headgate/api"

const (
	done     = 0  // the status of a command that succeeded
	check    = 2  // that of one with a sense
	conflict = 24 // that of one that a reservation forbids
)

// row is an outcome, and how it is reported. The why is 0 where that of the outcome means nothing.
type row struct {
	code, why      int
	status         int
	key, asc, ascq int
}

// rows are one for each outcome, and no two report alike.
var rows = [...]row{
	{api.Good, 0, done, 0, 0, 0},
	{api.Conflict, 0, conflict, 0, 0, 0},
	{api.Differ, 0, check, 14, 29, 0},
	{api.Beyond, 0, check, 5, 33, 0},
	{api.Wrong, 0, check, 5, 36, 0},
	{api.NoUnit, 0, check, 5, 37, 0},
	{api.Broken, 0, check, 3, 12, 0},
	{api.Told, api.WhyPower, check, 6, 41, 0},
	{api.Told, api.WhyPreempted, check, 6, 42, 5},
	{api.Told, api.WhyReleased, check, 6, 42, 4},
	{api.Told, api.WhyCleared, check, 6, 42, 3},
}

// find is the row that is asked for, or an empty one if there is none.
func find(asked func(r row) bool) (row, bool) {
	for _, r := range rows {
		if asked(r) {
			return r, true
		}
	}
	return row{}, false
}

// placed tells whether the place of the outcome is reported.
func (r row) placed() bool { return r.code == api.Differ }

// takes tells whether an outcome of this row may have this place.
func (r row) takes(at int) bool { return !r.placed() || isPlace(at) }

// sense is what reports an outcome of this row with this place.
func (r row) sense(at int) api.Sense {
	if !r.placed() {
		at = none
	}
	return api.Sense{Key: r.key, Asc: r.asc, Ascq: r.ascq, At: at}
}

// outcome asks for the row of what a command came to.
type outcome struct {
	code, at, why int
}

func (o outcome) isOf(r row) bool {
	return o.code == r.code && (r.why == 0 || o.why == r.why) && r.takes(o.at)
}

// report asks for the row of what was reported.
type report struct {
	status int
	sense  api.Sense
}

func (p report) isOf(r row) bool {
	return p.status == r.status && r.takes(p.sense.At) && p.sense == r.sense(p.sense.At)
}
