package state_test

import (
	"reflect"
	"slices"
	"testing"

	"whelk/api"
)

// does wants that a function is that command.
func (w *world) does(name string, want api.Node) {
	w.t.Helper()
	if n, there := w.Func(name); !there || !reflect.DeepEqual(n, want) {
		w.t.Errorf("%s does %+v, %v; not %+v", name, n, there, want)
	}
}

// hasNo wants that there is no such function, alias or trap.
func (w *world) hasNo(name string) {
	w.t.Helper()
	if n, there := w.Func(name); there || !reflect.DeepEqual(n, api.Node{}) {
		w.t.Errorf("function %q: %+v, %v", name, n, there)
	}
	if text, there := w.Alias(name); there || text != "" {
		w.t.Errorf("alias %q: %q, %v", name, text, there)
	}
	if action, there := w.Trap(name); there || action != "" {
		w.t.Errorf("trap %q: %q, %v", name, action, there)
	}
}

func TestFuncs_P10_3(t *testing.T) {
	w := roomy(t)
	body := api.Node{
		Kind: api.Group, Lists: [][]api.Node{{command("a", "b"), {Kind: api.For, Name: "i", Given: true, Lists: [][]api.Node{{command("c")}}}}},
		Redirs: []api.Redir{{Fd: 1, Kind: api.Out, Word: api.Word{{Kind: api.Single, Text: "f"}}}},
	}
	w.hasNo("f")
	w.good(w.SetFunc("f", body), w.SetFunc("_1", command("other")))
	w.does("f", body)
	w.does("_1", command("other"))
	w.good(w.SetFunc("f", command("new")))
	w.does("f", command("new"))
	w.good(w.SetFunc("f", api.Node{}))
	w.does("f", api.Node{})
	w.good(w.UnsetFunc("f"))
	w.hasNo("f")
	w.does("_1", command("other"))
	w.unchanged("UnsetFunc again", func() { w.wants("UnsetFunc", w.UnsetFunc("f"), api.ErrNone) })
	w.good(w.SetFunc("f", body))
	w.does("f", body)
	// A reserved word is a name, too.
	w.good(w.SetFunc("if", body))
	w.does("if", body)
}

func TestFuncErrors_P10_3(t *testing.T) {
	w := rich(t)
	w.unchanged("a wrong SetFunc or UnsetFunc", func() {
		for _, name := range noNames() {
			w.wants("SetFunc "+name, w.SetFunc(name, command("a")), api.ErrName)
			w.wants("UnsetFunc "+name, w.UnsetFunc(name), api.ErrName)
			w.hasNo(name)
		}
		for _, name := range []string{"v", "none", "INT", "ff"} {
			w.wants("UnsetFunc "+name, w.UnsetFunc(name), api.ErrNone)
		}
	})
}

func TestAliases_P10_3(t *testing.T) {
	w := roomy(t)
	w.good(w.SetAlias("ll", "ls -l "), w.SetAlias("a", ""), w.SetAlias("A", big(4096)), w.SetAlias("9", "\x00\xff\n"))
	w.good(w.SetAlias("ll", "ls -la"), w.SetAlias("%", "p"), w.SetAlias("_!%,@", "all"))
	want := map[string]string{"ll": "ls -la", "a": "", "A": big(4096), "9": "\x00\xff\n", "%": "p", "_!%,@": "all"}
	if is := everything(w.State).aliases; !reflect.DeepEqual(is, want) {
		t.Errorf("%q", is)
	}
	if l := w.Aliases(); !slices.Equal(l, []string{"%", "9", "A", "_!%,@", "a", "ll"}) {
		t.Errorf("%q", l)
	}
	for _, name := range []string{"none", "lll", "l", "", "LL"} {
		w.hasNo(name)
	}
	w.good(w.Unalias("A"), w.Unalias("a"), w.Unalias("%"))
	if l := w.Aliases(); !slices.Equal(l, []string{"9", "_!%,@", "ll"}) {
		t.Errorf("%q", l)
	}
	w.hasNo("a")
	w.unchanged("Unalias again", func() { w.wants("Unalias", w.Unalias("a"), api.ErrNone) })
}

func TestAliasNames_P10_3(t *testing.T) {
	w := roomy(t)
	alone, behind := "", ""
	for b := range 256 {
		c := string([]byte{byte(b)})
		for _, name := range []string{c, "1" + c} {
			e := w.SetAlias(name, "text")
			text, there := w.Alias(name)
			if e == api.OK && (text != "text" || !there) || e != api.OK && (e != api.ErrName || there) {
				t.Errorf("%q: %v, %q, %v", name, e, text, there)
			}
			if e == api.OK && name == c {
				alone += c
			} else if e == api.OK {
				behind += c
			}
		}
	}
	const want = "!%,0123456789@ABCDEFGHIJKLMNOPQRSTUVWXYZ_abcdefghijklmnopqrstuvwxyz"
	if alone != want || behind != want {
		t.Errorf("%q %q", alone, behind)
	}
	w.good(w.SetAlias(big(5000), ""))
}

func TestAliasErrors_P10_3(t *testing.T) {
	w := rich(t)
	w.unchanged("a wrong SetAlias or Unalias", func() {
		for _, name := range []string{"", "a-b", "-", "a b", "a=", "a.b", "a/b", "$a", "a\\", "'a'", "\xff", "ä", "a\n", "[", ":", "a+"} {
			w.wants("SetAlias "+name, w.SetAlias(name, "x"), api.ErrName)
			w.wants("SetAlias "+name, w.SetAlias(name, big(4097)), api.ErrName)
			w.wants("Unalias "+name, w.Unalias(name), api.ErrNone)
			w.hasNo(name)
		}
		for _, name := range []string{"l!", "new"} {
			w.wants("SetAlias "+name, w.SetAlias(name, big(4097)), api.ErrBig)
		}
		for _, name := range []string{"l", "l!!", "v", "f", "INT"} {
			w.wants("Unalias "+name, w.Unalias(name), api.ErrNone)
		}
	})
}

func TestTraps_P10_3(t *testing.T) {
	w := roomy(t)
	want := map[string]string{}
	for i, name := range trapNames() {
		w.hasNo(name)
		action := []string{"", "echo a", big(4096), "\x00", "-"}[i]
		w.good(w.SetTrap(name, action))
		want[name] = action
		if is := everything(w.State).traps; !reflect.DeepEqual(is, want) {
			t.Errorf("%.200q", is)
		}
	}
	w.good(w.SetTrap("EXIT", "one"), w.SetTrap("EXIT", "other"), w.SetTrap("TERM", ""))
	want["EXIT"], want["TERM"] = "other", ""
	for _, name := range trapNames() {
		if is := everything(w.State).traps; !reflect.DeepEqual(is, want) {
			t.Errorf("%.200q", is)
		}
		w.good(w.Untrap(name))
		delete(want, name)
		w.hasNo(name)
		w.unchanged("Untrap again", func() { w.good(w.Untrap(name)) })
	}
}

func TestTrapErrors_P10_3(t *testing.T) {
	w := rich(t)
	w.unchanged("a wrong SetTrap or Untrap", func() {
		for _, name := range []string{"", "exit", "Exit", "EXI", "EXITS", "INT ", " INT", "SIGINT", "KILL", "USR2", "USR", "QUIT", "0", "2", "ERR", "DEBUG", "INT\x00", "v", "f"} {
			w.wants("SetTrap "+name, w.SetTrap(name, "x"), api.ErrName)
			w.wants("SetTrap "+name, w.SetTrap(name, ""), api.ErrName)
			w.wants("SetTrap "+name, w.SetTrap(name, big(4097)), api.ErrName)
			w.wants("Untrap "+name, w.Untrap(name), api.ErrName)
			if action, there := w.Trap(name); action != "" || there {
				t.Error(name, action, there)
			}
		}
		for _, name := range trapNames() {
			w.wants("SetTrap "+name, w.SetTrap(name, big(4097)), api.ErrBig)
		}
	})
}

// All rows of traps that are not there, without bytes, and with some.
func TestEnter_P10_3(t *testing.T) {
	for n := range 243 {
		w := rich(t)
		want := everything(w.State)
		want.traps = map[string]string{}
		for _, name := range trapNames() {
			w.good(w.Untrap(name))
			switch n % 3 {
			case 1:
				w.good(w.SetTrap(name, ""))
				want.traps[name] = ""
			case 2:
				w.good(w.SetTrap(name, "echo "+name))
			}
			n /= 3
		}
		w.good(w.Enter())
		if is := everything(w.State); !reflect.DeepEqual(is, want) {
			t.Errorf("%+v\nnot\n%+v", is, want)
		}
		w.unchanged("Enter again", func() { w.good(w.Enter()) })
	}
}
