package store

import (
	"slices"
	"strings"

	"headgate/api"
	"headgate/extents"
	"headgate/fields"
)

// change is what is done to a unit.
type change struct {
	lun  int
	kind byte
	body string
}

// The kinds of changes, and what stands in their bodies.
const (
	kindWrote    byte = 'W' // the text of the extents in which the blocks are stored now
	kindCleared  byte = 'C' // the first block and the blocks of each range
	kindRecorded byte = 'R' // the record
)

func wrote(lun int, l []api.Extent) change {
	text, _ := extents.Text(l)
	return change{lun, kindWrote, text}
}

func cleared(lun int, l []api.Range) change {
	text := ""
	for _, r := range l {
		text += word(r.Lba) + word(r.Blocks)
	}
	return change{lun, kindCleared, text}
}

func recorded(lun int, text string) change { return change{lun, kindRecorded, text} }

// text is the change as a record of the journal.
func (c change) text() string { return string([]byte{byte(c.lun), c.kind}) + c.body }

// readChange is the change that a record tells; one that tells none is of no kind.
func readChange(text string) change {
	if len(text) < 2 {
		return change{}
	}
	return change{int(text[0]), text[1], text[2:]}
}

// on is the tables with the change made. The live change and the one that is read back both go through it, so that
// they can't differ in what they come to.
func (c change) on(l []table) ([]table, bool) {
	if c.lun >= len(l) {
		return nil, false
	}
	next := slices.Clone(l)
	t, ok := &next[c.lun], false
	switch c.kind {
	case kindWrote:
		ok = t.put(c.body)
	case kindCleared:
		ok = t.drop(c.body)
	case kindRecorded:
		t.record, ok = strings.Clone(c.body), true
	}
	return next, ok && t.sound()
}

// put stores blocks where the text of a list of extents says.
func (t *table) put(text string) bool {
	l, err := extents.Parse(text)
	if err != api.OK {
		return false
	}
	for _, x := range l {
		// None of them is refused, since each extent of a good list is one alone.
		t.extents, _ = extents.Set(t.extents, x)
	}
	return true
}

// drop takes away the blocks of the ranges that a text tells.
func (t *table) drop(text string) bool {
	for ; len(text) >= 2*wordSize; text = text[2*wordSize:] {
		lba, _ := fields.Big(text, 0, wordSize)
		blocks, _ := fields.Big(text, wordSize, wordSize)
		l, err := extents.Drop(t.extents, int(lba), int(blocks))
		if err != api.OK {
			return false
		}
		t.extents = l
	}
	return text == ""
}

// replay is the tables that a base and the changes behind it come to.
func replay(base string, changes []string) ([]table, bool) {
	l, ok := parse(base)
	for _, text := range changes {
		if !ok {
			return nil, false
		}
		l, ok = readChange(text).on(l)
	}
	return l, ok
}
