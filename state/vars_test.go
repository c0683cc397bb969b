package state_test

import (
	"reflect"
	"slices"
	"testing"

	"whelk/api"
	"whelk/state"
)

// has wants that a variable is just that.
func (w *world) has(name string, want state.Var) {
	w.t.Helper()
	if got := w.Var(name); got != want {
		w.t.Errorf("%s is %+v, not %+v", name, got, want)
	}
	value, there := w.Get(name)
	if value != want.Value || there != want.Set {
		w.t.Errorf("Get %s: %q, %v", name, value, there)
	}
	if slices.Contains(w.Names(), name) != (want != state.Var{}) {
		w.t.Errorf("%s and Names %q", name, w.Names())
	}
	if slices.Contains(w.Environ(), name+"="+want.Value) != (want.Set && want.Export) {
		w.t.Errorf("%s and Environ %q", name, w.Environ())
	}
}

// everyVar is each kind of variable there is, with a value of its own, and the one that is none.
func everyVar() []state.Var {
	var out []state.Var
	for n := range 8 {
		v := state.Var{Set: n&1 > 0, Export: n&2 > 0, Fixed: n&4 > 0}
		out = append(out, v)
		if v.Set {
			v.Value = "old"
			out = append(out, v)
		}
	}
	return out
}

func TestSet_P10_2(t *testing.T) {
	for _, was := range everyVar() {
		for _, all := range []bool{false, true} {
			for _, value := range []string{"", "new", "old", "a=b\x00\xff\n", big(4096)} {
				w := roomy(t)
				w.good(w.Put("x", was), w.SetOption('a', all))
				if was.Fixed {
					w.unchanged("Set of a fixed one", func() { w.wants("Set", w.Set("x", value), api.ErrRead) })
					continue
				}
				w.good(w.Set("x", value))
				w.has("x", state.Var{Value: value, Set: true, Export: was.Export || all})
				w.good(w.SetOption('a', false), w.Set("x", "more"))
				w.has("x", state.Var{Value: "more", Set: true, Export: was.Export || all})
			}
		}
	}
	// The option a does nothing to what was set ahead of it.
	w := roomy(t)
	w.good(w.Set("x", "1"), w.SetOption('a', true), w.Set("y", "2"), w.SetOption('a', false), w.Set("b", "3"))
	w.has("x", state.Var{Value: "1", Set: true})
	w.has("y", state.Var{Value: "2", Set: true, Export: true})
	w.has("b", state.Var{Value: "3", Set: true})
	// Other options export nothing.
	for _, o := range []byte("Cefux") {
		w.good(w.SetOption(o, true), w.Set("v", "1"))
	}
	w.has("v", state.Var{Value: "1", Set: true})
}

func TestSetErrors_P10_2(t *testing.T) {
	w := rich(t)
	w.unchanged("a wrong Set", func() {
		for _, name := range noNames() {
			w.wants("Set of "+name, w.Set(name, "1"), api.ErrName)
			w.wants("Set of "+name, w.Set(name, big(4097)), api.ErrName)
			if v, there := w.Get(name); v != "" || there || w.Var(name) != (state.Var{}) {
				t.Error(name, v, there)
			}
		}
		for _, name := range []string{"v", "new", "fixed", "all"} {
			w.wants("Set of "+name, w.Set(name, big(4097)), api.ErrBig)
			w.wants("Set of "+name, w.Set(name, big(100000)), api.ErrBig)
		}
		for _, name := range []string{"fixed", "all"} {
			for _, value := range []string{"", "x", big(4096)} {
				w.wants("Set of "+name, w.Set(name, value), api.ErrRead)
			}
		}
	})
}

func TestUnset_P10_2(t *testing.T) {
	for _, was := range everyVar() {
		w := rich(t)
		w.good(w.Put("x", was))
		if was.Fixed {
			w.unchanged("Unset of a fixed one", func() { w.wants("Unset", w.Unset("x"), api.ErrRead) })
			continue
		}
		w.good(w.Unset("x"))
		w.has("x", state.Var{})
		w.unchanged("Unset again", func() { w.good(w.Unset("x")) })
		// It has nothing of what it was.
		w.good(w.Set("x", "1"))
		w.has("x", state.Var{Value: "1", Set: true})
	}
	w := rich(t)
	w.unchanged("a wrong Unset", func() {
		for _, name := range noNames() {
			w.wants("Unset of "+name, w.Unset(name), api.ErrName)
		}
	})
	w.good(w.Set("f", "1"), w.Unset("f"))
	if _, there := w.Func("f"); !there {
		t.Error("Unset of a variable took a function")
	}
}

func TestMark_P10_2(t *testing.T) {
	for _, was := range everyVar() {
		for n := range 4 {
			export, fixed := n&1 > 0, n&2 > 0
			w := rich(t)
			w.good(w.Put("x", was), w.Mark("x", export, fixed))
			want := was
			want.Export, want.Fixed = was.Export || export, was.Fixed || fixed
			w.has("x", want)
		}
	}
	w := rich(t)
	w.unchanged("a wrong Mark", func() {
		for _, name := range noNames() {
			for n := range 4 {
				w.wants("Mark of "+name, w.Mark(name, n&1 > 0, n&2 > 0), api.ErrName)
			}
		}
		w.good(w.Mark("new", false, false))
	})
	// A variable that is exported alone has no value; with one it is told.
	w.has("exported", state.Var{Export: true})
	w.good(w.Set("exported", ""))
	w.has("exported", state.Var{Set: true, Export: true})
}

func TestPut_P10_2(t *testing.T) {
	for _, was := range everyVar() {
		for _, v := range everyVar() {
			w := rich(t)
			w.good(w.SetOption('a', true), w.Put("x", was))
			w.has("x", was)
			w.good(w.Put("x", v))
			w.has("x", v)
			v.Value = "of its own"
			w.good(w.Put("x", v))
			if !v.Set {
				v.Value = ""
			}
			w.has("x", v)
		}
	}
	w := rich(t)
	w.unchanged("a wrong Put", func() {
		for _, name := range noNames() {
			for _, v := range everyVar() {
				w.wants("Put of "+name, w.Put(name, v), api.ErrName)
			}
		}
		w.good(w.Put("new", state.Var{}), w.Put("new", state.Var{Value: "x"}))
	})
	// The chapter names no bound of what is put.
	w.good(w.Put("x", state.Var{Value: big(4097), Set: true}))
	w.has("x", state.Var{Value: big(4097), Set: true})
}

func TestNamesAndEnviron_P10_2(t *testing.T) {
	w := roomy(t)
	for _, c := range []struct {
		name string
		v    state.Var
	}{
		{"b", state.Var{Value: "2", Set: true, Export: true}},
		{"a_", state.Var{Set: true, Export: true, Fixed: true}},
		{"a", state.Var{Value: "=a=", Set: true, Export: true}},
		{"B", state.Var{Value: "x", Set: true}},
		{"_", state.Var{Export: true}},
		{"a0", state.Var{Fixed: true}},
		{"A", state.Var{Value: "3\n", Set: true, Export: true}},
		{"aa", state.Var{Set: true, Fixed: true}},
		{"gone", state.Var{}},
	} {
		w.good(w.Put(c.name, c.v))
	}
	if l := w.Names(); !slices.Equal(l, []string{"A", "B", "_", "a", "a0", "a_", "aa", "b"}) {
		t.Errorf("%q", l)
	}
	if l := w.Environ(); !slices.Equal(l, []string{"A=3\n", "a==a=", "a_=", "b=2"}) {
		t.Errorf("%q", l)
	}
	for _, name := range []string{"A", "B", "_", "a", "b"} {
		w.good(w.Unset(name))
	}
	if names, environ := w.Names(), w.Environ(); !slices.Equal(names, []string{"a0", "a_", "aa"}) || !slices.Equal(environ, []string{"a_="}) {
		t.Errorf("%q %q", names, environ)
	}
}

// Variables, functions and aliases of one name do not meet.
func TestSortsApart_P10_2(t *testing.T) {
	w := roomy(t)
	w.good(w.Set("x", "1"), w.SetFunc("x", command("f")), w.SetAlias("x", "text"), w.Set("INT", "2"), w.SetTrap("INT", "go"))
	w.good(w.UnsetFunc("x"), w.Untrap("INT"))
	w.has("x", state.Var{Value: "1", Set: true})
	w.has("INT", state.Var{Value: "2", Set: true})
	w.good(w.Unset("x"), w.Unset("INT"))
	want := nothing()
	want.aliases["x"] = "text"
	if is := everything(w.State); !reflect.DeepEqual(is, want) {
		t.Errorf("%+v", is)
	}
}
