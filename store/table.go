package store

import (
	"strings"

	"headgate/api"
	"headgate/extents"
	"headgate/fields"
)

// The journal's base is a mark and three parts for each unit, each behind its length: the unit itself (its Id and its
// blocks), its record, and the text of its extents.
const (
	mark      = "HGST"
	wordSize  = 4
	idSize    = 16
	maxRecord = 2048
)

// table is what is known of a unit.
type table struct {
	unit    api.Unit
	record  string
	extents []api.Extent // where its blocks are stored; the others are zeros
}

// fresh is the tables of new units.
func fresh(l []api.Unit) []table {
	tables := make([]table, len(l))
	for i, u := range l {
		tables[i].unit = u
	}
	return tables
}

// sound tells whether these can be the tables of a store.
func sound(l []table) bool {
	for _, t := range l {
		if !t.sound() {
			return false
		}
	}
	return len(l) >= 1 && len(l) <= api.MaxLuns
}

// required is how many sectors a store with these tables needs.
func required(l []table) int {
	sectors := journalSize
	for _, t := range l {
		sectors += t.unit.Blocks * perBlock
	}
	return sectors
}

// baseText is the base that tells these tables.
func baseText(l []table) string {
	var b strings.Builder
	b.WriteString(mark)
	for _, t := range l {
		where, _ := extents.Text(t.extents)
		for _, part := range [...]string{t.unit.Id + word(t.unit.Blocks), t.record, where} {
			b.WriteString(word(len(part)))
			b.WriteString(part)
		}
	}
	return b.String()
}

// parse is the tables that a base tells.
func parse(base string) ([]table, bool) {
	rest, ok := strings.CutPrefix(base, mark)
	var l []table
	for ok && rest != "" {
		var t table
		t, rest, ok = cutTable(rest)
		l = append(l, t)
	}
	return l, ok && sound(l)
}

// cutTable is the table that s begins with, and what stands behind it.
func cutTable(s string) (t table, rest string, ok bool) {
	var parts [3]string
	for i := range parts {
		if parts[i], s, ok = cutPart(s); !ok {
			return table{}, "", false
		}
	}
	unit, record, where := parts[0], parts[1], parts[2]
	blocks, ok := fields.Big(unit, idSize, wordSize)
	l, err := extents.Parse(where)
	if !ok || len(unit) != idSize+wordSize || err != api.OK {
		return table{}, "", false
	}
	// Copies, since they would else keep all of the base for as long as they stand.
	u := api.Unit{Blocks: int(blocks), Id: strings.Clone(unit[:idSize])}
	return table{unit: u, record: strings.Clone(record), extents: l}, s, true
}

// cutPart is the part that s begins with, behind its length, and what stands behind the part.
func cutPart(s string) (part, rest string, ok bool) {
	n, ok := fields.Big(s, 0, wordSize)
	if !ok || n > uint64(len(s)-wordSize) {
		return "", "", false
	}
	behind := wordSize + int(n)
	return s[wordSize:behind], s[behind:], true
}

// sound tells whether this can be the table of a unit.
func (t table) sound() bool {
	if t.unit.Blocks < 1 || t.unit.Blocks > api.MaxBlocks || len(t.unit.Id) != idSize || len(t.record) > maxRecord {
		return false
	}
	// The lists of package extents are in ascending order, so the last extent tells for all.
	last := len(t.extents) - 1
	return last < 0 || t.has(t.extents[last].Lba, t.extents[last].Blocks)
}

// has tells whether these are blocks of the unit.
func (t table) has(lba, blocks int) bool {
	// lba + blocks could wrap round, so the room behind lba is asked instead.
	return lba >= 0 && blocks >= 0 && blocks <= t.unit.Blocks-lba
}

// stored is where those of these blocks are stored that are.
func (t table) stored(lba, blocks int) []api.Extent {
	behind := lba + blocks
	l, _ := extents.Drop(t.extents, 0, lba)
	l, _ = extents.Drop(l, behind, api.MaxBlocks-behind)
	return l
}

func word(n int) string { return fields.PutBig(uint64(n), wordSize) }
