package undo_test

import (
	"math"
	"slices"
	"strings"
	"testing"

	"whelk/api"
	"whelk/undo"
)

// newLog is a log that New made.
func newLog(t *testing.T, most, nest int) *undo.Log {
	t.Helper()
	l, e := undo.New(most, nest)
	if l == nil || e != api.OK {
		t.Fatal("New", most, nest, e)
	}
	return l
}

// wants is that a call answers that error.
func wants(t *testing.T, call string, got, want api.Errno) {
	t.Helper()
	if got != want {
		t.Error(call, got, "want", want)
	}
}

// marks opens a mark, which is the nth.
func marks(t *testing.T, l *undo.Log, nth int) {
	t.Helper()
	if n, e := l.Mark(); n != nth || e != api.OK {
		t.Error("Mark", n, e, "want", nth)
	}
}

// stands is that a log has so many marks and notes.
func stands(t *testing.T, l *undo.Log, open, notes int) {
	t.Helper()
	if l.Marks() != open || l.Len() != notes {
		t.Error("stands", l.Marks(), l.Len(), "want", open, notes)
	}
}

// said is what notes have said, in their order.
type said struct{ strings.Builder }

// note notes that s is said.
func (x *said) note(t *testing.T, l *undo.Log, s string) {
	t.Helper()
	wants(t, "Note "+s, l.Note(func() { x.WriteString(s) }), api.OK)
}

// wants is that all that was said is s.
func (x *said) wants(t *testing.T, s string) {
	t.Helper()
	if x.String() != s {
		t.Errorf("said %q, want %q", x.String(), s)
	}
}

func TestNew_P8_1(t *testing.T) {
	for _, most := range []int{math.MinInt, -1, 0, 1, 5, 1048575, 1048576, 1048577, math.MaxInt} {
		for _, nest := range []int{math.MinInt, -1, 0, 1, 2, 1023, 1024, 1025, math.MaxInt} {
			l, e := undo.New(most, nest)
			if good := most >= 0 && most <= 1048576 && nest >= 1 && nest <= 1024; !good {
				if l != nil || e != api.ErrArg {
					t.Error(most, nest, l, e)
				}
				continue
			}
			if l == nil || e != api.OK {
				t.Fatal(most, nest, e)
			}
			stands(t, l, 0, 0)
		}
	}
}

func TestMark_P8_1(t *testing.T) {
	for _, nest := range []int{1, 2, 7, 1024} {
		l := newLog(t, 10, nest)
		for range 2 {
			for n := 1; n <= nest; n++ {
				marks(t, l, n)
				stands(t, l, n, 0)
			}
			for range 3 {
				if n, e := l.Mark(); n != 0 || e != api.ErrNest {
					t.Error(nest, n, e)
				}
				stands(t, l, nest, 0)
			}
			wants(t, "Undo", l.Undo(), api.OK)
			marks(t, l, nest)
			for n := nest - 1; n >= 0; n-- {
				wants(t, "Undo", l.Undo(), api.OK)
				stands(t, l, n, 0)
			}
			wants(t, "Undo", l.Undo(), api.ErrArg)
			stands(t, l, 0, 0)
		}
	}
}

// The last note is done first, and those behind the last mark alone.
func TestUndo_P8_1(t *testing.T) {
	l := newLog(t, 10, 5)
	x := &said{}
	marks(t, l, 1)
	x.note(t, l, "a")
	x.note(t, l, "b")
	marks(t, l, 2)
	marks(t, l, 3)
	x.note(t, l, "c")
	x.note(t, l, "d")
	x.note(t, l, "e")
	stands(t, l, 3, 5)
	x.wants(t, "")
	wants(t, "Undo", l.Undo(), api.OK)
	x.wants(t, "edc")
	stands(t, l, 2, 2)
	x.note(t, l, "f")
	stands(t, l, 2, 3)
	wants(t, "Undo", l.Undo(), api.OK)
	x.wants(t, "edcf")
	stands(t, l, 1, 2)
	x.note(t, l, "g")
	wants(t, "Undo", l.Undo(), api.OK)
	x.wants(t, "edcfgba")
	stands(t, l, 0, 0)
	wants(t, "Undo", l.Undo(), api.ErrArg)
	x.wants(t, "edcfgba")
	marks(t, l, 1)
	wants(t, "Undo", l.Undo(), api.OK)
	x.wants(t, "edcfgba")
}

func TestNote_P8_1(t *testing.T) {
	l := newLog(t, 3, 2)
	x := &said{}
	x.note(t, l, "never")
	stands(t, l, 0, 0)
	marks(t, l, 1)
	x.note(t, l, "a")
	x.note(t, l, "b")
	marks(t, l, 2)
	x.note(t, l, "c")
	stands(t, l, 2, 3)
	for range 3 {
		wants(t, "Note", l.Note(func() { x.WriteString("too many") }), api.ErrWrite)
		stands(t, l, 2, 3)
	}
	wants(t, "Undo", l.Undo(), api.OK)
	x.note(t, l, "d")
	wants(t, "Note", l.Note(func() { x.WriteString("too many") }), api.ErrWrite)
	wants(t, "Undo", l.Undo(), api.OK)
	x.wants(t, "cdba")
	x.note(t, l, "never")
	stands(t, l, 0, 0)
}

// The same thing is noted as often as it is handed in.
func TestNoteTwice_P8_1(t *testing.T) {
	l := newLog(t, 10, 2)
	n := 0
	more := func() { n++ }
	marks(t, l, 1)
	for range 4 {
		wants(t, "Note", l.Note(more), api.OK)
	}
	stands(t, l, 1, 4)
	wants(t, "Undo", l.Undo(), api.OK)
	if n != 4 {
		t.Error(n)
	}
}

func TestNilNote_P8_1(t *testing.T) {
	l := newLog(t, 1, 2)
	wants(t, "without a mark", l.Note(nil), api.ErrArg)
	marks(t, l, 1)
	wants(t, "behind a mark", l.Note(nil), api.ErrArg)
	stands(t, l, 1, 0)
	wants(t, "Note", l.Note(func() {}), api.OK)
	wants(t, "where there are most", l.Note(nil), api.ErrWrite)
	stands(t, l, 1, 1)
}

// A log that may have no notes has marks, and nothing can be noted behind them.
func TestNoNotes_P8_1(t *testing.T) {
	l := newLog(t, 0, 2)
	m, c := undo.NewMap[string, int](l), undo.NewCell(l, 1)
	wants(t, "Note", l.Note(func() {}), api.OK)
	wants(t, "Map.Set", m.Set("a", 1), api.OK)
	wants(t, "Cell.Set", c.Set(2), api.OK)
	marks(t, l, 1)
	wants(t, "Note", l.Note(func() {}), api.ErrWrite)
	wants(t, "Map.Set", m.Set("a", 2), api.ErrWrite)
	wants(t, "Map.Delete", m.Delete("a"), api.ErrWrite)
	wants(t, "Map.Delete", m.Delete("b"), api.OK)
	wants(t, "Cell.Set", c.Set(3), api.ErrWrite)
	if v, there := m.Get("a"); v != 1 || !there || c.Get() != 2 {
		t.Error(v, there, c.Get())
	}
	stands(t, l, 1, 0)
}

func TestNil_P8_1(t *testing.T) {
	var none *undo.Log
	for _, l := range []*undo.Log{none, {}, new(undo.Log)} {
		if n, e := l.Mark(); n != 0 || e != api.ErrNil {
			t.Error(n, e)
		}
		wants(t, "Undo", l.Undo(), api.ErrNil)
		wants(t, "Note", l.Note(func() { t.Error("done") }), api.ErrNil)
		wants(t, "Note of nil", l.Note(nil), api.ErrNil)
		stands(t, l, 0, 0)
	}
}

// Full logs are done in a breath.
func TestMostNotes_Limits(t *testing.T) {
	const most, nest = 1048576, 1024
	l := newLog(t, most, nest)
	n := 0
	for range 2 {
		for i := range most {
			if i%(most/nest) == 0 {
				l.Mark()
			}
			back := func() {
				if n--; n != i {
					t.Fatal(n, i)
				}
			}
			if e := l.Note(back); e != api.OK {
				t.Fatal(i, e)
			}
			n++
		}
		stands(t, l, nest, most)
		wants(t, "Note", l.Note(func() {}), api.ErrWrite)
		for open := nest; open > 0; open-- {
			stands(t, l, open, open*(most/nest))
			wants(t, "Undo", l.Undo(), api.OK)
			if n != l.Len() {
				t.Fatal(n, l.Len())
			}
		}
		stands(t, l, 0, 0)
	}
}

func TestExamples_P8(t *testing.T) {
	l := newLog(t, 10, 5)
	m := undo.NewMap[string, int](l)
	wants(t, "Set a", m.Set("a", 1), api.OK)
	marks(t, l, 1)
	wants(t, "Set a", m.Set("a", 2), api.OK)
	wants(t, "Set b", m.Set("b", 3), api.OK)
	stands(t, l, 1, 2)
	marks(t, l, 2)
	wants(t, "Delete a", m.Delete("a"), api.OK)
	stands(t, l, 2, 3)
	wants(t, "Undo", l.Undo(), api.OK)
	has(t, m, "a", 2)
	stands(t, l, 1, 2)
	wants(t, "Undo", l.Undo(), api.OK)
	has(t, m, "a", 1)
	hasNot(t, m, "b")
	stands(t, l, 0, 0)
	wants(t, "Undo", l.Undo(), api.ErrArg)
	if !slices.Equal(m.Keys(), []string{"a"}) {
		t.Error(m.Keys())
	}
}

// What one log notes is nothing to another, nor is what stands on it.
func TestLogsApart_R3(t *testing.T) {
	a, b := newLog(t, 2, 2), newLog(t, 2, 2)
	ma, mb := undo.NewMap[int, int](a), undo.NewMap[int, int](b)
	ca, cb := undo.NewCell(a, 1), undo.NewCell(b, 1)
	marks(t, a, 1)
	wants(t, "Set", ma.Set(1, 1), api.OK)
	wants(t, "Set", ca.Set(2), api.OK)
	wants(t, "Set", mb.Set(1, 1), api.OK)
	wants(t, "Set", cb.Set(2), api.OK)
	stands(t, b, 0, 0)
	marks(t, b, 1)
	wants(t, "Set", ca.Set(3), api.ErrWrite)
	wants(t, "Set", cb.Set(3), api.OK)
	wants(t, "Undo", a.Undo(), api.OK)
	hasNot(t, ma, 1)
	has(t, mb, 1, 1)
	if ca.Get() != 1 || cb.Get() != 3 {
		t.Error(ca.Get(), cb.Get())
	}
	stands(t, a, 0, 0)
	stands(t, b, 1, 1)
}
