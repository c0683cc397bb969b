package undo_test

import (
	"testing"

	"whelk/api"
	"whelk/undo"
)

// A note that panics is no harm to Undo, nor to the notes ahead of it.
func TestNotePanics_R1(t *testing.T) {
	l := newLog(t, 10, 3)
	c := undo.NewCell(l, 1)
	x := &said{}
	marks(t, l, 1)
	x.note(t, l, "a")
	wants(t, "Set", c.Set(2), api.OK)
	wants(t, "Note", l.Note(func() { panic("no") }), api.OK)
	wants(t, "Note", l.Note(func() { x.WriteString("b"); var m map[int]int; m[1] = 1 }), api.OK)
	x.note(t, l, "c")
	wants(t, "Undo", l.Undo(), api.OK)
	x.wants(t, "cba")
	cell(t, c, 1)
	stands(t, l, 0, 0)
}

// What a note sets, or notes, while it is done, is behind the mark too, and goes back likewise.
func TestNoteSets_P8_4(t *testing.T) {
	l := newLog(t, 20, 3)
	m, c := undo.NewMap[string, int](l), undo.NewCell(l, 1)
	x := &said{}
	wants(t, "Set", m.Set("a", 1), api.OK)
	marks(t, l, 1)
	wants(t, "Set", m.Set("a", 2), api.OK)
	marks(t, l, 2)
	x.note(t, l, "first")
	wants(t, "Note", l.Note(func() {
		m.Set("a", 7)
		m.Set("b", 8)
		c.Set(9)
		m.Delete("a")
		x.note(t, l, "inner ")
	}), api.OK)
	wants(t, "Undo", l.Undo(), api.OK)
	x.wants(t, "inner first")
	has(t, m, "a", 2)
	hasNot(t, m, "b")
	cell(t, c, 1)
	stands(t, l, 1, 1)
	wants(t, "Undo", l.Undo(), api.OK)
	has(t, m, "a", 1)
	stands(t, l, 0, 0)
}

// A mark that a note opens and leaves open is gone with that behind which it was noted.
func TestNoteMarks_P8_4(t *testing.T) {
	l := newLog(t, 20, 3)
	c := undo.NewCell(l, 1)
	marks(t, l, 1)
	marks(t, l, 2)
	wants(t, "Set", c.Set(2), api.OK)
	wants(t, "Note", l.Note(func() {
		marks(t, l, 3)
		if n, e := l.Mark(); n != 0 || e != api.ErrNest {
			t.Error(n, e)
		}
		c.Set(3)
	}), api.OK)
	wants(t, "Undo", l.Undo(), api.OK)
	cell(t, c, 1)
	stands(t, l, 1, 0)
	marks(t, l, 2)
	wants(t, "Set", c.Set(2), api.OK)
	wants(t, "Note", l.Note(func() {
		marks(t, l, 3)
		c.Set(3)
		wants(t, "Undo", l.Undo(), api.OK)
		cell(t, c, 2)
	}), api.OK)
	wants(t, "Undo", l.Undo(), api.OK)
	cell(t, c, 1)
	stands(t, l, 1, 0)
}

// A note may undo the very mark behind which it is: the other notes are done, each once, and the mark is gone once.
func TestNoteUndoes_P8_4(t *testing.T) {
	l := newLog(t, 20, 3)
	x := &said{}
	marks(t, l, 1)
	x.note(t, l, "a")
	marks(t, l, 2)
	x.note(t, l, "b")
	wants(t, "Note", l.Note(func() {
		wants(t, "Undo", l.Undo(), api.OK)
		x.wants(t, "cb")
		stands(t, l, 1, 1)
	}), api.OK)
	x.note(t, l, "c")
	wants(t, "Undo", l.Undo(), api.OK)
	x.wants(t, "cb")
	stands(t, l, 1, 1)
	wants(t, "Undo", l.Undo(), api.OK)
	x.wants(t, "cba")
	stands(t, l, 0, 0)
	// The mark that is opened where the old one was is another one.
	marks(t, l, 1)
	wants(t, "Note", l.Note(func() {
		wants(t, "Undo", l.Undo(), api.OK)
		wants(t, "Undo", l.Undo(), api.ErrArg)
		marks(t, l, 1)
		x.note(t, l, "d")
	}), api.OK)
	wants(t, "Undo", l.Undo(), api.OK)
	x.wants(t, "cba")
	stands(t, l, 1, 1)
	wants(t, "Undo", l.Undo(), api.OK)
	x.wants(t, "cbad")
	stands(t, l, 0, 0)
}

// Notes that note themselves again come to an end: they count till their mark is gone.
func TestNotesEnd_R1(t *testing.T) {
	const most = 100000
	l := newLog(t, most, 1024)
	times := 0
	var again func()
	for _, c := range []struct {
		marks int
		again func()
	}{
		{1, func() { times++; l.Note(again) }},
		{1, func() { times++; l.Note(again); l.Undo() }},
		{1, func() { times++; l.Note(again); l.Mark(); l.Undo() }},
		{1024, func() { times++; l.Mark(); l.Note(again); l.Undo() }},
	} {
		for n := 1; n <= c.marks; n++ {
			marks(t, l, n)
		}
		times = 0
		again = c.again
		wants(t, "Note", l.Note(again), api.OK)
		wants(t, "Undo", l.Undo(), api.OK)
		stands(t, l, c.marks-1, 0)
		if times != most {
			t.Error(times)
		}
		for l.Undo() == api.OK {
		}
	}
}

// Notes that each undo their mark are done one within another, however many there are.
func TestManyUndoesWithin_Limits(t *testing.T) {
	const most = 1048576
	l := newLog(t, most, 2)
	marks(t, l, 1)
	times := 0
	for range most {
		wants(t, "Note", l.Note(func() { times++; l.Undo() }), api.OK)
	}
	wants(t, "Undo", l.Undo(), api.OK)
	stands(t, l, 0, 0)
	if times != most {
		t.Error(times)
	}
}
