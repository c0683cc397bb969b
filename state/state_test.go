package state_test

import (
	"math"
	"reflect"
	"slices"
	"strings"
	"testing"

	"whelk/api"
	"whelk/state"
	"whelk/sums"
	"whelk/undo"
)

// world is a state, and the log it stands on.
type world struct {
	*state.State
	t   *testing.T
	log *undo.Log
}

// newWorld has a log of at most so many notes.
func newWorld(t *testing.T, most int) *world {
	t.Helper()
	log, e := undo.New(most, 8)
	if e != api.OK {
		t.Fatal("undo.New", most, e)
	}
	s, e := state.New(log)
	if s == nil || e != api.OK {
		t.Fatal("New", s, e)
	}
	return &world{s, t, log}
}

// roomy is a world with room for all notes that tests want.
func roomy(t *testing.T) *world {
	t.Helper()
	return newWorld(t, 10000)
}

// rich is a roomy world in which something of each sort is known.
func rich(t *testing.T) *world {
	t.Helper()
	w := roomy(t)
	w.good(
		w.Set("v", "1"), w.Mark("exported", true, false), w.Mark("fixed", false, true),
		w.Put("all", state.Var{Value: "x", Set: true, Export: true, Fixed: true}),
		w.SetFunc("f", command("echo")), w.SetAlias("l!", "ls "), w.SetTrap("INT", ""), w.SetTrap("TERM", "go"),
		w.SetOption('u', true), w.SetArgs([]string{"a", "", "c"}), w.SetCursor(2, 5),
	)
	w.SetStatus(7)
	return w
}

func (w *world) wants(what string, got, want api.Errno) {
	w.t.Helper()
	if got != want {
		w.t.Errorf("%s: %v, not %v", what, got, want)
	}
}

// good wants that all calls were good.
func (w *world) good(l ...api.Errno) {
	w.t.Helper()
	for i, e := range l {
		if e != api.OK {
			w.t.Errorf("call %d: %v", i, e)
		}
	}
}

// marks opens a mark, which is the nth.
func (w *world) marks(nth int) {
	w.t.Helper()
	if n, e := w.log.Mark(); n != nth || e != api.OK {
		w.t.Errorf("Mark: %d, %v; not %d", n, e, nth)
	}
}

// notes wants so many notes.
func (w *world) notes(want int) {
	w.t.Helper()
	if got := w.log.Len(); got != want {
		w.t.Errorf("%d notes, not %d", got, want)
	}
}

// unchanged does what must not change anything.
func (w *world) unchanged(what string, do func()) {
	w.t.Helper()
	was, notes := everything(w.State), w.log.Len()
	do()
	if is := everything(w.State); !reflect.DeepEqual(is, was) {
		w.t.Errorf("%s: it was\n%+v\nit is\n%+v", what, was, is)
	}
	w.notes(notes)
}

// told is all that a state tells. Names of functions and traps are not told, so these are asked for.
type told struct {
	vars          map[string]state.Var
	environ       []string
	funcs         map[string]api.Node
	aliases       map[string]string
	traps         map[string]string
	options, on   string
	args          []string
	at, in, stays int
}

func everything(s *state.State) told {
	out := told{
		vars: map[string]state.Var{}, funcs: map[string]api.Node{}, aliases: map[string]string{}, traps: map[string]string{},
		environ: append([]string{}, s.Environ()...), args: append([]string{}, s.Args()...), options: s.Options(), stays: s.Status(),
	}
	for _, name := range s.Names() {
		out.vars[name] = s.Var(name)
	}
	for _, name := range someNames() {
		if n, there := s.Func(name); there {
			out.funcs[name] = n
		}
	}
	for _, name := range s.Aliases() {
		out.aliases[name], _ = s.Alias(name)
	}
	for _, name := range trapNames() {
		if action, there := s.Trap(name); there {
			out.traps[name] = action
		}
	}
	for o := range 256 {
		if s.Option(byte(o)) {
			out.on += string([]byte{byte(o)})
		}
	}
	out.at, out.in = s.Cursor()
	return out
}

// someNames are those that tests give to variables and functions.
func someNames() []string {
	return []string{"a", "b", "x", "y", "v", "f", "g", "_", "_1", "Z9", "exported", "fixed", "all", "zz"}
}

// noNames are texts that are no names.
func noNames() []string {
	return []string{"", "1", "9a", "a-b", "a b", " a", "a ", "a=", "=", "a.b", "@", "*", "#", "?", "-", "$", "!", "a\x00", "\x00", "\xff", "a\xff", "ä", "a\n", "a!", "%", ",", "a@"}
}

func trapNames() []string { return []string{"EXIT", "HUP", "INT", "TERM", "USR1"} }

// big is that many bytes.
func big(n int) string { return strings.Repeat("x", n) }

// command is a simple one of those words.
func command(words ...string) api.Node {
	n := api.Node{Kind: api.Simple}
	for _, s := range words {
		n.Words = append(n.Words, api.Word{{Kind: api.Bare, Text: s}})
	}
	return n
}

// nothing is what a state tells that knows nothing.
func nothing() told {
	return told{
		vars: map[string]state.Var{}, funcs: map[string]api.Node{}, aliases: map[string]string{}, traps: map[string]string{},
		environ: []string{}, args: []string{}, at: 1,
	}
}

func TestNew_P10_1(t *testing.T) {
	w := roomy(t)
	if is := everything(w.State); !reflect.DeepEqual(is, nothing()) {
		t.Errorf("%+v", is)
	}
	w.notes(0)
	if s, e := state.New(nil); s != nil || e != api.ErrNil {
		t.Error(s, e)
	}
	// Another one on the same log knows nothing of it.
	w = rich(t)
	other, e := state.New(w.log)
	if e != api.OK || !reflect.DeepEqual(everything(other), nothing()) {
		t.Errorf("%v %+v", e, everything(other))
	}
	w.unchanged("a change of another one", func() {
		other.Set("v", "2")
		other.SetArgs(nil)
		other.SetOption('u', false)
		other.SetStatus(3)
		other.Unalias("l!")
		other.Enter()
	})
}

func TestName_P10_1(t *testing.T) {
	for _, s := range append(someNames(), "A", "z", "Z", "a0", "a9", "__", "_a_Z_0", "if", big(5000)) {
		if !state.Name(s) {
			t.Errorf("%.20q is a name", s)
		}
	}
	for _, s := range append(noNames(), big(5000)+"-") {
		if state.Name(s) {
			t.Errorf("%.20q is no name", s)
		}
	}
	first, then := "", ""
	for b := range 256 {
		c := string([]byte{byte(b)})
		if state.Name(c) {
			first += c
		}
		if state.Name("a" + c) {
			then += c
		}
	}
	const upper, lower = "ABCDEFGHIJKLMNOPQRSTUVWXYZ", "abcdefghijklmnopqrstuvwxyz"
	if first != upper+"_"+lower {
		t.Errorf("first bytes: %q", first)
	}
	if then != "0123456789"+upper+"_"+lower {
		t.Errorf("other bytes: %q", then)
	}
}

// What New did not make counts as nil.
func TestNil_P10_1(t *testing.T) {
	var none *state.State
	for _, s := range []*state.State{none, {}} {
		w := &world{State: s, t: t}
		for _, name := range append(noNames(), "a", "INT") {
			for i, e := range []api.Errno{
				s.Set(name, big(9999)), s.Unset(name), s.Mark(name, true, true), s.Put(name, state.Var{}), s.Put(name, state.Var{Set: true}),
				s.SetFunc(name, command("a")), s.UnsetFunc(name), s.SetAlias(name, big(9999)), s.Unalias(name),
				s.SetTrap(name, big(9999)), s.Untrap(name), s.Enter(), s.SetOption('a', true), s.SetOption('b', true),
				s.SetArgs(nil), s.SetArgs(make([]string, 1001)), s.Shift(0), s.Shift(-1), s.SetCursor(1, 0), s.SetCursor(-1, 0),
			} {
				w.wants("call "+string(rune('A'+i)), e, api.ErrNil)
			}
			if v := s.Var(name); v != (state.Var{}) {
				t.Error(v)
			}
			if v, there := s.Get(name); v != "" || there {
				t.Error(v, there)
			}
		}
		s.SetStatus(7)
		want := nothing()
		want.at = 0
		if is := everything(s); !reflect.DeepEqual(is, want) {
			t.Errorf("%+v", is)
		}
	}
}

// Expressions are worked out over a state.
func TestIsStore_P10_2(t *testing.T) {
	w := roomy(t)
	var store sums.Store = w.State
	w.good(w.Set("y", "5"), w.Mark("fixed", false, true))
	for _, c := range []struct {
		text string
		n    int64
		e    api.Errno
	}{{"x=y+=2", 7, api.OK}, {"x*none", 0, api.OK}, {"fixed=1", 0, api.ErrRead}} {
		x, _, e := sums.Parse(c.text)
		w.good(e)
		if n, e := sums.Value(x, store); n != c.n || e != c.e {
			t.Error(c.text, n, e)
		}
	}
	if x, _ := w.Get("x"); x != "7" {
		t.Error(x)
	}
}

func TestExamples_P10(t *testing.T) {
	w := roomy(t)
	w.good(w.SetOption('a', true), w.Set("x", "1"))
	if l := w.Environ(); !slices.Equal(l, []string{"x=1"}) {
		t.Error(l)
	}
	w.good(w.Mark("x", false, true))
	w.wants("Set", w.Set("x", "2"), api.ErrRead)
	w.good(w.SetArgs([]string{"a", "b", "c"}), w.Shift(2))
	if l := w.Args(); !slices.Equal(l, []string{"c"}) {
		t.Error(l)
	}
	w.wants("Shift", w.Shift(2), api.ErrArg)
	w.good(w.SetTrap("INT", ""), w.SetTrap("EXIT", "y"), w.Enter())
	if is := everything(w.State).traps; !reflect.DeepEqual(is, map[string]string{"INT": ""}) {
		t.Error(is)
	}
}

func TestStatus_P10_4(t *testing.T) {
	w := rich(t)
	for n, want := range map[int]int{
		0: 0, 1: 1, 127: 127, 128: 128, 255: 255, 256: 0, 257: 1, 511: 255, 512: 0, 1000: 232,
		-1: 255, -2: 254, -255: 1, -256: 0, -257: 255, math.MaxInt: 255, math.MinInt: 0, math.MinInt + 3: 3,
	} {
		w.SetStatus(n)
		if got := w.Status(); got != want {
			t.Error(n, got, want)
		}
	}
	for n := -600; n < 600; n++ {
		w.SetStatus(n)
		if got := w.Status(); got < 0 || got > 255 || (n-got)%256 != 0 {
			t.Error(n, got)
		}
	}
}

// R2: what is answered is the caller's, and what is handed in stays as it is.
func TestListsAreOwn_R2(t *testing.T) {
	w := rich(t)
	given := []string{"1", "2", "3", "4"}
	w.good(w.SetArgs(given[:3]), w.Shift(1))
	w.unchanged("what the caller does to lists", func() {
		given[1] = "other"
		for _, l := range [][]string{w.Args(), w.Names(), w.Environ(), w.Aliases()} {
			if len(l) == 0 {
				t.Fatal("nothing is told")
			}
			clear(append(l, "more"))
			clear(l)
		}
		clear(append(w.Args(), "more")[:1])
	})
	given = []string{"1", "2", "3", "4"}
	w.good(w.SetArgs(given[:2]), w.Shift(1), w.SetCursor(3, 3), w.Set("v", "x"))
	if !slices.Equal(given, []string{"1", "2", "3", "4"}) {
		t.Error(given)
	}
}

// R3: a state hangs on its own calls alone.
func TestStatesApart_R3(t *testing.T) {
	a, b := rich(t), rich(t)
	b.unchanged("calls of another one", func() {
		a.good(a.Unset("v"), a.UnsetFunc("f"), a.Unalias("l!"), a.Enter(), a.SetOption('u', false), a.Shift(3), a.SetCursor(0, 0))
		a.SetStatus(0)
		a.marks(1)
		a.good(a.Set("v", "9"), a.log.Undo())
	})
}
