package state_test

import (
	"reflect"
	"testing"

	"whelk/api"
	"whelk/state"
)

// call is one that changes a rich world.
type call struct {
	name string
	do   func(*world) api.Errno
}

func changes() []call {
	return []call{
		{"Set of a new one", func(w *world) api.Errno { return w.Set("new", "1") }},
		{"Set of an old one", func(w *world) api.Errno { return w.Set("v", "2") }},
		{"Set of an exported one", func(w *world) api.Errno { return w.Set("exported", "2") }},
		{"Unset", func(w *world) api.Errno { return w.Unset("v") }},
		{"Mark of a new one", func(w *world) api.Errno { return w.Mark("new", true, true) }},
		{"Mark of an old one", func(w *world) api.Errno { return w.Mark("v", false, true) }},
		{"Put", func(w *world) api.Errno { return w.Put("v", state.Var{Fixed: true}) }},
		{"Put of a fixed one", func(w *world) api.Errno { return w.Put("all", state.Var{Value: "y", Set: true}) }},
		{"Put of none", func(w *world) api.Errno { return w.Put("all", state.Var{}) }},
		{"SetFunc of a new one", func(w *world) api.Errno { return w.SetFunc("g", command("a")) }},
		{"SetFunc of an old one", func(w *world) api.Errno { return w.SetFunc("f", command("a")) }},
		{"UnsetFunc", func(w *world) api.Errno { return w.UnsetFunc("f") }},
		{"SetAlias of a new one", func(w *world) api.Errno { return w.SetAlias("new", "") }},
		{"SetAlias of an old one", func(w *world) api.Errno { return w.SetAlias("l!", "") }},
		{"Unalias", func(w *world) api.Errno { return w.Unalias("l!") }},
		{"SetTrap of a new one", func(w *world) api.Errno { return w.SetTrap("EXIT", "") }},
		{"SetTrap of an old one", func(w *world) api.Errno { return w.SetTrap("INT", "x") }},
		{"Untrap", func(w *world) api.Errno { return w.Untrap("INT") }},
		{"Enter", func(w *world) api.Errno { return w.Enter() }},
		{"SetOption on", func(w *world) api.Errno { return w.SetOption('a', true) }},
		{"SetOption off", func(w *world) api.Errno { return w.SetOption('u', false) }},
		{"SetArgs", func(w *world) api.Errno { return w.SetArgs([]string{"x", "y"}) }},
		{"SetArgs of none", func(w *world) api.Errno { return w.SetArgs(nil) }},
		{"Shift", func(w *world) api.Errno { return w.Shift(1) }},
		{"SetCursor", func(w *world) api.Errno { return w.SetCursor(7, 1) }},
	}
}

// Each change is one note, goes back, and is none without a mark.
func TestEachGoesBack_P10_5(t *testing.T) {
	for _, c := range changes() {
		w := rich(t)
		was := everything(w.State)
		w.good(c.do(w))
		w.notes(0)
		changed := everything(w.State)
		if reflect.DeepEqual(was, changed) {
			t.Error(c.name, "changes nothing")
		}
		w = rich(t)
		w.marks(1)
		w.good(c.do(w))
		w.notes(1)
		if is := everything(w.State); !reflect.DeepEqual(is, changed) {
			t.Errorf("%s behind a mark: %+v\nnot\n%+v", c.name, is, changed)
		}
		w.SetStatus(44)
		w.good(w.log.Undo())
		w.notes(0)
		was.stays = 44
		if is := everything(w.State); !reflect.DeepEqual(is, was) {
			t.Errorf("%s undone: %+v\nnot\n%+v", c.name, is, was)
		}
	}
}

// Without room for a note nothing is changed; with room for one there is room enough.
func TestFull_P10_5(t *testing.T) {
	for _, c := range changes() {
		for _, most := range []int{0, 1, 3} {
			w := newWorld(t, most)
			known := rich(t)
			copyTo(w, known)
			w.marks(1)
			for range most {
				w.good(w.log.Note(func() {}))
			}
			w.unchanged(c.name+" without room", func() { w.wants(c.name, c.do(w), api.ErrWrite) })
			w.SetStatus(99) // it needs no room
			if w.Status() != 99 {
				t.Error(w.Status())
			}
			w.good(w.log.Undo(), c.do(w))
		}
		w := newWorld(t, 1)
		copyTo(w, rich(t))
		w.marks(1)
		w.good(c.do(w))
		w.notes(1)
	}
}

// copyTo makes that known in one world which another one knows.
func copyTo(w, from *world) {
	for name, v := range everything(from.State).vars {
		w.good(w.Put(name, v))
	}
	f, _ := from.Func("f")
	w.good(w.SetFunc("f", f), w.SetAlias("l!", "ls "), w.SetTrap("INT", ""), w.SetTrap("TERM", "go"))
	w.good(w.SetOption('u', true), w.SetArgs(from.Args()), w.SetCursor(from.Cursor()))
	w.SetStatus(from.Status())
}

// What is wrong is told ahead of what has no room.
func TestErrorsAheadOfWrite_P10_5(t *testing.T) {
	w := newWorld(t, 0)
	copyTo(w, rich(t))
	w.marks(1)
	w.unchanged("wrong calls without room", func() {
		for i, c := range []struct{ got, want api.Errno }{
			{w.Set("1", "x"), api.ErrName}, {w.Set("x", big(4097)), api.ErrBig}, {w.Set("all", "x"), api.ErrRead},
			{w.Unset("1"), api.ErrName}, {w.Unset("all"), api.ErrRead},
			{w.Mark("1", true, true), api.ErrName}, {w.Put("1", state.Var{Set: true}), api.ErrName},
			{w.SetFunc("1", api.Node{}), api.ErrName}, {w.UnsetFunc("1"), api.ErrName}, {w.UnsetFunc("g"), api.ErrNone},
			{w.SetAlias("", ""), api.ErrName}, {w.SetAlias("a", big(4097)), api.ErrBig}, {w.Unalias("a"), api.ErrNone},
			{w.SetTrap("int", ""), api.ErrName}, {w.SetTrap("INT", big(4097)), api.ErrBig}, {w.Untrap("int"), api.ErrName},
			{w.SetOption('b', true), api.ErrArg}, {w.SetArgs(make([]string, 1001)), api.ErrMany}, {w.SetArgs([]string{big(4097)}), api.ErrBig},
			{w.Shift(4), api.ErrArg}, {w.Shift(-1), api.ErrArg}, {w.SetCursor(-1, 1), api.ErrArg},
			// What takes away what is not there has nothing to note.
			{w.Unset("new"), api.OK}, {w.Untrap("HUP"), api.OK}, {w.Put("new", state.Var{}), api.OK}, {w.Mark("new", false, false), api.OK},
		} {
			if c.got != c.want {
				t.Error(i, c.got, c.want)
			}
		}
	})
}

// Enter is a note a trap: those ahead of the one that has no room are gone.
func TestEnterWithoutRoom_P10_3(t *testing.T) {
	for room := range 6 {
		w := newWorld(t, room)
		want := map[string]string{"INT": ""}
		for _, name := range trapNames() {
			if name != "INT" {
				want[name] = "echo " + name
			}
			w.good(w.SetTrap(name, want[name]))
		}
		was := everything(w.State)
		w.marks(1)
		gone := []string{"EXIT", "HUP", "TERM", "USR1"}
		if room < len(gone) {
			w.wants("Enter", w.Enter(), api.ErrWrite)
			gone = gone[:room]
		} else {
			w.good(w.Enter())
		}
		for _, name := range gone {
			delete(want, name)
		}
		if is := everything(w.State).traps; !reflect.DeepEqual(is, want) {
			t.Errorf("room for %d: %q, not %q", room, is, want)
		}
		w.notes(len(gone))
		w.good(w.log.Undo())
		if is := everything(w.State); !reflect.DeepEqual(is, was) {
			t.Errorf("room for %d, undone: %+v", room, is)
		}
	}
}

// Marks in one another: each one's Undo is back at that mark.
func TestMarksInOneAnother_P10_5(t *testing.T) {
	w := rich(t)
	var at []told
	for nth := range 8 {
		w.marks(nth + 1)
		at = append(at, everything(w.State))
		for i, c := range changes() {
			if (i+nth)%3 != 0 {
				c.do(w)
			}
		}
		w.SetStatus(nth)
	}
	for nth := 7; nth >= 0; nth-- {
		w.good(w.log.Undo())
		at[nth].stays = 7
		if is := everything(w.State); !reflect.DeepEqual(is, at[nth]) {
			t.Errorf("mark %d: %+v\nnot\n%+v", nth+1, is, at[nth])
		}
	}
	w.notes(0)
}

// A state that is made behind a mark goes back to knowing nothing.
func TestMadeBehindMark_P10_5(t *testing.T) {
	w := roomy(t)
	w.marks(1)
	s, _ := state.New(w.log)
	w.notes(0)
	w.good(s.Set("x", "1"), s.SetArgs([]string{"a"}), s.SetCursor(2, 2), s.SetOption('e', true), s.SetTrap("INT", ""))
	s.SetStatus(3)
	w.good(w.log.Undo())
	want := nothing()
	want.stays = 3
	if is := everything(s); !reflect.DeepEqual(is, want) {
		t.Errorf("%+v", is)
	}
}

// What was fixed behind a mark is free again behind its Undo; what was fixed ahead of it keeps its value throughout.
func TestFixed_P10_5(t *testing.T) {
	w := roomy(t)
	w.good(w.Set("a", "1"), w.Mark("a", false, true), w.Set("b", "2"))
	w.marks(1)
	w.good(w.Mark("b", true, true))
	for _, name := range []string{"a", "b"} {
		w.wants("Set", w.Set(name, "9"), api.ErrRead)
		w.wants("Unset", w.Unset(name), api.ErrRead)
		w.good(w.Mark(name, false, false), w.SetOption('a', true))
	}
	w.has("a", state.Var{Value: "1", Set: true, Fixed: true})
	w.has("b", state.Var{Value: "2", Set: true, Export: true, Fixed: true})
	w.good(w.log.Undo())
	w.wants("Set", w.Set("a", "9"), api.ErrRead)
	w.good(w.Set("b", "9"))
	w.has("b", state.Var{Value: "9", Set: true})
}
