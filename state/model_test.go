package state_test

import (
	"maps"
	"math/rand/v2"
	"reflect"
	"slices"
	"strconv"
	"strings"
	"testing"

	"whelk/api"
	"whelk/state"
)

// second is a second reading of the chapter: what is told is kept as it is told, and copied whole at each mark.
type second struct {
	told
	most, nest, notes int
	waits             []told
	ahead             []int // notes at each mark
}

func (x told) copied() told {
	x.vars, x.funcs = maps.Clone(x.vars), maps.Clone(x.funcs)
	x.aliases, x.traps = maps.Clone(x.aliases), maps.Clone(x.traps)
	x.args = slices.Clone(x.args)
	return x
}

func (s *second) mark() (int, api.Errno) {
	if len(s.waits) == s.nest {
		return 0, api.ErrNest
	}
	s.waits, s.ahead = append(s.waits, s.told.copied()), append(s.ahead, s.notes)
	return len(s.waits), api.OK
}

func (s *second) undo() api.Errno {
	last := len(s.waits) - 1
	if last < 0 {
		return api.ErrArg
	}
	stays := s.stays
	s.told, s.notes = s.waits[last], s.ahead[last]
	s.stays = stays
	s.waits, s.ahead = s.waits[:last], s.ahead[:last]
	return api.OK
}

// change does what is a note, if it may be.
func (s *second) change(do func()) api.Errno {
	if len(s.waits) > 0 {
		if s.notes == s.most {
			return api.ErrWrite
		}
		s.notes++
	}
	do()
	return api.OK
}

// made is whether a text has one byte at least, and those alone.
func made(s, of string) bool { return s != "" && strings.Trim(s, of) == "" }

const letters = "abcdefghijklmnopqrstuvwxyzABCDEFGHIJKLMNOPQRSTUVWXYZ"

func (s *second) name(name string) bool {
	return made(name, letters+"0123456789_") && made(name[:1], letters+"_")
}

func (s *second) put(name string, v state.Var) api.Errno {
	_, there := s.vars[name]
	if !v.Set {
		v.Value = ""
	}
	is := v.Set || v.Export || v.Fixed
	switch {
	case !s.name(name):
		return api.ErrName
	case !is && !there:
		return api.OK
	}
	return s.change(func() {
		delete(s.vars, name)
		if is {
			s.vars[name] = v
		}
	})
}

func (s *second) set(name, value string) api.Errno {
	was := s.vars[name]
	switch {
	case !s.name(name):
		return api.ErrName
	case len(value) > 4096:
		return api.ErrBig
	case was.Fixed:
		return api.ErrRead
	}
	return s.put(name, state.Var{Value: value, Set: true, Export: was.Export || strings.Contains(s.options, "a")})
}

func (s *second) unset(name string) api.Errno {
	if s.name(name) && s.vars[name].Fixed {
		return api.ErrRead
	}
	return s.put(name, state.Var{})
}

func (s *second) markName(name string, export, fixed bool) api.Errno {
	v := s.vars[name]
	return s.put(name, state.Var{Value: v.Value, Set: v.Set, Export: v.Export || export, Fixed: v.Fixed || fixed})
}

func (s *second) setFunc(name string, n api.Node) api.Errno {
	if !s.name(name) {
		return api.ErrName
	}
	return s.change(func() { s.funcs[name] = n })
}

func (s *second) unsetFunc(name string) api.Errno {
	_, there := s.funcs[name]
	switch {
	case !s.name(name):
		return api.ErrName
	case !there:
		return api.ErrNone
	}
	return s.change(func() { delete(s.funcs, name) })
}

func (s *second) setAlias(name, text string) api.Errno {
	switch {
	case !made(name, letters+"0123456789_!%,@"):
		return api.ErrName
	case len(text) > 4096:
		return api.ErrBig
	}
	return s.change(func() { s.aliases[name] = text })
}

func (s *second) unalias(name string) api.Errno {
	if _, there := s.aliases[name]; !there {
		return api.ErrNone
	}
	return s.change(func() { delete(s.aliases, name) })
}

func (s *second) setTrap(name, action string) api.Errno {
	switch {
	case !slices.Contains(trapNames(), name):
		return api.ErrName
	case len(action) > 4096:
		return api.ErrBig
	}
	return s.change(func() { s.traps[name] = action })
}

func (s *second) untrap(name string) api.Errno {
	if _, there := s.traps[name]; there {
		return s.change(func() { delete(s.traps, name) })
	} else if !slices.Contains(trapNames(), name) {
		return api.ErrName
	}
	return api.OK
}

func (s *second) enter() api.Errno {
	for _, name := range trapNames() {
		if s.traps[name] == "" {
			continue
		}
		if e := s.untrap(name); e != api.OK {
			return e
		}
	}
	return api.OK
}

func (s *second) setOption(o byte, on bool) api.Errno {
	if !strings.Contains("Caefux", string(rune(o))) {
		return api.ErrArg
	}
	return s.change(func() {
		l := strings.Split(strings.ReplaceAll(s.options, string(rune(o)), ""), "")
		if on {
			l = append(l, string(rune(o)))
		}
		slices.Sort(l)
		s.options = strings.Join(l, "")
	})
}

func (s *second) setArgs(l []string) api.Errno {
	if len(l) > 1000 {
		return api.ErrMany
	}
	for _, arg := range l {
		if len(arg) > 4096 {
			return api.ErrBig
		}
	}
	return s.change(func() { s.args, s.at, s.in = append([]string{}, l...), 1, 0 })
}

func (s *second) shift(n int) api.Errno {
	if n < 0 || n > len(s.args) {
		return api.ErrArg
	}
	return s.change(func() { s.args = append([]string{}, s.args[n:]...) })
}

func (s *second) setCursor(at, in int) api.Errno {
	if at < 0 || in < 0 {
		return api.ErrArg
	}
	return s.change(func() { s.at, s.in = at, in })
}

// tells is what the second reading tells, the environment made anew.
func (s *second) tells() told {
	out := s.told.copied()
	out.environ = []string{}
	for name, v := range out.vars {
		if v.Set && v.Export {
			out.environ = append(out.environ, name+"="+v.Value)
		}
	}
	slices.Sort(out.environ)
	out.on = out.options
	return out
}

// pick is one of those, at random.
func pick[T any](r *rand.Rand, l ...T) T { return l[r.IntN(len(l))] }

// step does one call on both, and is its name and what they answered.
func step(r *rand.Rand, w *world, s *second) (string, api.Errno, api.Errno) {
	name := pick(r, "a", "b", "x", "_", "Z9", "", "9", "a!")
	trap := pick(r, append(trapNames(), "", "int")...)
	text := pick(r, "", "1", "two words", big(4096), big(4097))
	yes, no := r.IntN(2) > 0, r.IntN(4) == 0
	n, m := r.IntN(6)-1, r.IntN(6)-1
	switch r.IntN(18) {
	case 0:
		got, e := w.log.Mark()
		want, f := s.mark()
		if got != want {
			return "Mark's number", -1, f
		}
		return "Mark", e, f
	case 1:
		return "Undo", w.log.Undo(), s.undo()
	case 2:
		return "Set", w.Set(name, text), s.set(name, text)
	case 3:
		return "Unset", w.Unset(name), s.unset(name)
	case 4:
		return "Mark of a name", w.Mark(name, yes, no), s.markName(name, yes, no)
	case 5:
		v := state.Var{Value: text, Set: yes, Export: r.IntN(2) > 0, Fixed: no}
		return "Put", w.Put(name, v), s.put(name, v)
	case 6:
		c := command(name, text)
		return "SetFunc", w.SetFunc(name, c), s.setFunc(name, c)
	case 7:
		return "UnsetFunc", w.UnsetFunc(name), s.unsetFunc(name)
	case 8:
		return "SetAlias", w.SetAlias(name, text), s.setAlias(name, text)
	case 9:
		return "Unalias", w.Unalias(name), s.unalias(name)
	case 10:
		return "SetTrap", w.SetTrap(trap, text), s.setTrap(trap, text)
	case 11:
		return "Untrap", w.Untrap(trap), s.untrap(trap)
	case 12:
		return "Enter", w.Enter(), s.enter()
	case 13:
		o := pick(r, []byte("aCefuxb")...)
		return "SetOption", w.SetOption(o, yes), s.setOption(o, yes)
	case 14:
		l := slices.Repeat([]string{"", text}, pick(r, 0, 1, 2, 500, 501))
		return "SetArgs", w.SetArgs(l), s.setArgs(l)
	case 15:
		return "Shift", w.Shift(n), s.shift(n)
	case 16:
		return "SetCursor", w.SetCursor(n, m), s.setCursor(n, m)
	}
	w.SetStatus(n)
	s.stays = (n + 256) % 256
	return "SetStatus", api.OK, api.OK
}

// Rows of calls made up at random, and all that there is asked behind each.
func TestSecondReading_P10_5(t *testing.T) {
	met := map[string]int{}
	for seed := range uint64(500) {
		r := rand.New(rand.NewPCG(10, seed))
		most := r.IntN(40)
		w, s := newWorld(t, most), &second{told: nothing(), most: most, nest: 8}
		for i := range 150 {
			call, got, want := step(r, w, s)
			is, should := everything(w.State), s.tells()
			if got != want || !reflect.DeepEqual(is, should) || w.log.Len() != s.notes {
				t.Fatalf("%d, %d: %s: %v, not %v; notes %d, not %d\n%.2000v\nnot\n%.2000v", seed, i, call, got, want, w.log.Len(), s.notes, is, should)
			}
			met[call+" "+strconv.Itoa(int(got))]++
		}
		for s.undo() == api.OK {
			w.good(w.log.Undo())
			if is, should := everything(w.State), s.tells(); !reflect.DeepEqual(is, should) {
				t.Fatalf("%d at the end: %.2000v\nnot\n%.2000v", seed, is, should)
			}
		}
	}
	for _, key := range []string{
		"Mark 0", "Mark 42", "Undo 0", "Undo 1", "Set 0", "Set 16", "Set 21", "Set 26", "Set 43",
		"Unset 0", "Unset 16", "Unset 26", "Unset 43", "Mark of a name 0", "Mark of a name 16", "Mark of a name 43", "Put 0", "Put 16", "Put 43",
		"SetFunc 0", "SetFunc 16", "SetFunc 43", "UnsetFunc 0", "UnsetFunc 10", "UnsetFunc 16", "UnsetFunc 43",
		"SetAlias 0", "SetAlias 16", "SetAlias 21", "SetAlias 43", "Unalias 0", "Unalias 10", "Unalias 43",
		"SetTrap 0", "SetTrap 16", "SetTrap 21", "SetTrap 43", "Untrap 0", "Untrap 16", "Untrap 43", "Enter 0", "Enter 43",
		"SetOption 0", "SetOption 1", "SetOption 43", "SetArgs 0", "SetArgs 20", "SetArgs 21", "SetArgs 43",
		"Shift 0", "Shift 1", "Shift 43", "SetCursor 0", "SetCursor 1", "SetCursor 43", "SetStatus 0",
	} {
		if met[key] < 20 {
			t.Error(key, "was met", met[key])
		}
	}
}
