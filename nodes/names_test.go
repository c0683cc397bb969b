package nodes_test

import (
	"math"
	"strconv"
	"strings"
	"testing"

	"whelk/api"
	"whelk/nodes"
)

func TestMake_P5_2(t *testing.T) {
	f := roomy(t)
	for i, c := range []struct {
		from int
		path string
		kind int
		text string
		want string // of Show
	}{
		{1, "d", nodes.Dir, "", "/d /\n"},
		{1, "d/f", nodes.File, "xy", "/d /\n/d/f =xy\n"},
		{1, "l", nodes.Link, "d/f", "/d /\n/d/f =xy\n/l >d/f\n"},
		{2, "e/", nodes.Dir, "", "/d /\n/d/e /\n/d/f =xy\n/l >d/f\n"},
		{5, "..//" + long, nodes.File, "", "/d /\n/d/e /\n/d/f =xy\n/d/" + long + " =\n/l >d/f\n"},
		{5, "/m", nodes.Link, "", "/d /\n/d/e /\n/d/f =xy\n/d/" + long + " =\n/l >d/f\n/m >\n"},
		{5, "g///", nodes.Dir, "", "/d /\n/d/e /\n/d/e/g /\n/d/f =xy\n/d/" + long + " =\n/l >d/f\n/m >\n"},
	} {
		n, e := f.Make(c.from, c.path, c.kind, c.text)
		wantsNode(t, c.path, n, e, i+2, api.OK)
		wantsText(t, c.path, f.Show(), api.OK, c.want, api.OK)
		want := nodes.Info{Kind: c.kind, Size: len(c.text), Names: 1}
		if got, e := f.Stat(n); got != want || e != api.OK {
			t.Error(c.path, got, e)
		}
		back, e := f.Walk(c.from, c.path, false)
		wantsNode(t, c.path, back, e, n, api.OK)
	}
}

func TestMakeBehindLinks_P5_2(t *testing.T) {
	l := []string{"d /", "l >d", "m >l", "n >/d/", "f =", "o >f", "none >x", "e >"}
	for path, where := range map[string]string{"l/a": "/d/a", "m/b": "/d/b", "n/c": "/d/c", "n/../../g": "/g", "m/../h": "/h"} {
		f := roomy(t, l...)
		n, e := f.Make(root, path, nodes.File, "z")
		wantsNode(t, path, n, e, 10, api.OK)
		n, e = f.Walk(root, where, false)
		wantsNode(t, where, n, e, 10, api.OK)
	}
	f := roomy(t, l...)
	for path, want := range map[string]api.Errno{"o/a": api.ErrNoDir, "f/a": api.ErrNoDir, "none/a": api.ErrNone, "e/a": api.ErrNone,
		"l": api.ErrThere, "none": api.ErrThere, "none/": api.ErrThere, "e": api.ErrThere, "l/": api.ErrThere} {
		for _, kind := range []int{nodes.Dir, nodes.File, nodes.Link} {
			unchanged(t, f, path, func() {
				n, e := f.Make(root, path, kind, "")
				wantsNode(t, path, n, e, 0, want)
			})
		}
	}
}

// The ways in which a last part may not be, of Make and of Name.
func lastParts() map[string]api.Errno {
	return map[string]api.Errno{
		"": api.ErrNone, strings.Repeat("a", 257): api.ErrBig, strings.Repeat("/", 256) + "a": api.ErrBig, "d/" + strings.Repeat("/", 255): api.ErrBig,
		"none/a": api.ErrNone, "none/": api.ErrNoDir, "none/.": api.ErrNone, "none/..": api.ErrNone, long + "x/a": api.ErrName, "\x00/a": api.ErrName, "f/a": api.ErrNoDir, "f/.": api.ErrNoDir, "f/..": api.ErrNoDir, "f/" + long + "x": api.ErrNoDir, "f/\x00": api.ErrNoDir, "d/f/a": api.ErrNoDir, "self/a": api.ErrLoop, "self/.": api.ErrLoop, "empty/a": api.ErrNone, "big/a": api.ErrBig,
		".": api.ErrThere, "./": api.ErrThere, "..": api.ErrThere, "../": api.ErrThere, "/": api.ErrThere, "///": api.ErrThere, "d/.": api.ErrThere, "d/..": api.ErrThere, "/.": api.ErrThere, "d/../": api.ErrThere,
		long + "x": api.ErrName, long + "x/": api.ErrName, "d/" + long + "x": api.ErrName, "\x00": api.ErrName, "d/a\x00b": api.ErrName, "\x00/": api.ErrName,
		"d": api.ErrThere, "d/": api.ErrThere, "f": api.ErrThere, "f/": api.ErrThere, "d/f": api.ErrThere, "d/f/": api.ErrThere, "self": api.ErrThere, "self/": api.ErrThere, "empty": api.ErrThere, "/d": api.ErrThere, "//d//f": api.ErrThere,
		"a/": api.ErrNoDir, "a//": api.ErrNoDir, "d/a/": api.ErrNoDir,
	}
}

func partly(t *testing.T, room int) *nodes.FS {
	t.Helper()
	return built(t, 6+1, room, "d /", "f =x", "d/f =y", "self >self", "empty >", "big >"+strings.Repeat("a", 257))
}

const partlyUsed = 1 + 1 + 4 + 257

func TestMakeErrors_P5_2(t *testing.T) {
	// There is no room for a node, nor for a byte: that is named last.
	f := partly(t, partlyUsed)
	all := lastParts()
	unchanged(t, f, "errors of Make", func() {
		for path, want := range all {
			for _, kind := range []int{nodes.File, nodes.Link} {
				n, e := f.Make(root, path, kind, "text")
				wantsNode(t, path, n, e, 0, want)
			}
			if want == api.ErrNoDir && !strings.Contains(path, "f/") {
				want = api.ErrRoom // of a Dir a / may stand behind it
			}
			n, e := f.Make(root, path, nodes.Dir, "")
			wantsNode(t, path+" Dir", n, e, 0, want)
		}
		for _, from := range []int{0, -1, 3, 4, 5, 8, 9, math.MaxInt} {
			for path := range all {
				n, e := f.Make(from, path, nodes.File, "")
				wantsNode(t, "from "+strconv.Itoa(from)+" "+path, n, e, 0, api.ErrArg)
			}
		}
		// Kind and text go first.
		for _, path := range []string{"a", "", "/", "d", "f/a", strings.Repeat("a", 257)} {
			for _, kind := range []int{0, -1, 4, 5, math.MinInt, math.MaxInt} {
				for _, text := range []string{"", "a", strings.Repeat("a", 4097)} {
					n, e := f.Make(root, path, kind, text)
					wantsNode(t, "a kind that is none", n, e, 0, api.ErrArg)
				}
			}
			for _, text := range []string{"a", "\x00", strings.Repeat("a", 4097)} {
				n, e := f.Make(root, path, nodes.Dir, text)
				wantsNode(t, "a directory's text", n, e, 0, api.ErrArg)
			}
			for _, kind := range []int{nodes.File, nodes.Link} {
				for _, from := range []int{root, 0} {
					n, e := f.Make(from, path, kind, strings.Repeat("a", 4097))
					wantsNode(t, "a text that is too great", n, e, 0, api.ErrBig)
				}
			}
		}
	})
}

func TestMakeInOrphan_P5_2(t *testing.T) {
	f := orphan(t)
	for path, want := range map[string]api.Errno{"a": api.ErrNone, "a/": api.ErrNone, ".": api.ErrNone, "..": api.ErrNone, "./a": api.ErrNone, "": api.ErrNone, long + "x": api.ErrNone, "../a": api.ErrNone, "a/b": api.ErrNone, long + "x/a": api.ErrName, strings.Repeat("a", 257): api.ErrBig, "/": api.ErrThere, "/f": api.ErrThere, "/f/a": api.ErrNoDir} {
		unchanged(t, f, path, func() {
			for _, kind := range []int{nodes.Dir, nodes.File, nodes.Link} {
				n, e := f.Make(2, path, kind, "")
				wantsNode(t, path, n, e, 0, want)
			}
			wants(t, "Name "+path, f.Name(3, 2, path), want)
		})
	}
	n, e := f.Make(2, "/a", nodes.File, "")
	wantsNode(t, "/a", n, e, 4, api.OK)
	// A tree below one of its directories is as good as below the root.
	n, e = f.Make(2, "/d", nodes.Dir, "")
	wantsNode(t, "/d", n, e, 5, api.OK)
	n, e = f.Make(2, "/d/a", nodes.Dir, "")
	wantsNode(t, "/d/a", n, e, 6, api.OK)
}

func TestMakeRoom_P5_2(t *testing.T) {
	f := built(t, 4, 10, "a =12345", "b >123")
	for _, kind := range []int{nodes.File, nodes.Link} {
		unchanged(t, f, "no room", func() {
			n, e := f.Make(root, "c", kind, "123")
			wantsNode(t, "three bytes", n, e, 0, api.ErrRoom)
		})
	}
	n, e := f.Make(root, "c", nodes.Link, "12")
	wantsNode(t, "two bytes", n, e, 4, api.OK)
	for _, kind := range []int{nodes.Dir, nodes.File, nodes.Link} {
		unchanged(t, f, "no room", func() {
			n, e := f.Make(root, "d", kind, "")
			wantsNode(t, "a fifth node", n, e, 0, api.ErrRoom)
		})
	}
	// What goes leaves room.
	wants(t, "Remove", f.Remove(root, "a"), api.OK)
	n, e = f.Make(root, "d", nodes.File, "123456")
	wantsNode(t, "more than it left", n, e, 0, api.ErrRoom)
	n, e = f.Make(root, "d", nodes.File, "12345")
	wantsNode(t, "what it left", n, e, 2, api.OK)
	f = built(t, 1, 0)
	n, e = f.Make(root, "d", nodes.Dir, "")
	wantsNode(t, "the root alone", n, e, 0, api.ErrRoom)
	f = built(t, 2, 0)
	n, e = f.Make(root, "f", nodes.File, "a")
	wantsNode(t, "no bytes", n, e, 0, api.ErrRoom)
	n, e = f.Make(root, "f", nodes.File, "")
	wantsNode(t, "none needed", n, e, 2, api.OK)
}

func TestMakeMost_P5_2(t *testing.T) {
	f := roomy(t)
	text := strings.Repeat("a", 4096)
	for i := range 256 {
		n, e := f.Make(root, strconv.Itoa(i), nodes.File, text)
		wantsNode(t, "a great file", n, e, i+2, api.OK)
	}
	n, e := f.Make(root, "x", nodes.File, "a")
	wantsNode(t, "one byte more", n, e, 0, api.ErrRoom)
	for i := 256; i < 1023; i++ {
		n, e := f.Make(root, strconv.Itoa(i), nodes.Dir, "")
		wantsNode(t, "a directory", n, e, i+2, api.OK)
	}
	n, e = f.Make(root, "x", nodes.Dir, "")
	wantsNode(t, "one node more", n, e, 0, api.ErrRoom)
	if many, used := f.Used(); many != 1024 || used != 1048576 {
		t.Error(many, used)
	}
}

// A new node's number is the least one that no node has.
func TestNumbers_P5_2(t *testing.T) {
	f := roomy(t, "a =", "b =", "c /", "d >", "e =")
	wants(t, "Hold 3", f.Hold(3), api.OK)
	for _, name := range []string{"b", "e", "c", "a"} {
		wants(t, "Remove "+name, f.Remove(root, name), api.OK)
	}
	for i, want := range []int{2, 4, 6, 7} {
		n, e := f.Make(root, "n"+strconv.Itoa(i), nodes.File, "")
		wantsNode(t, "Make", n, e, want, api.OK)
	}
	wants(t, "Drop 3", f.Drop(3), api.OK)
	n, e := f.Make(root, "o", nodes.Dir, "")
	wantsNode(t, "Make", n, e, 3, api.OK)
	n, e = f.Make(root, "p", nodes.Dir, "")
	wantsNode(t, "Make", n, e, 8, api.OK)
}

// Nothing of a node that is gone is left in the one that has its number then.
func TestNumbersAgain_P5_2(t *testing.T) {
	f := roomy(t, "f =xyz")
	wants(t, "Hold", f.Hold(2), api.OK)
	wants(t, "Name", f.Name(2, root, "g"), api.OK)
	wants(t, "Remove", f.Remove(root, "f"), api.OK)
	wants(t, "Remove", f.Remove(root, "g"), api.OK)
	wants(t, "Drop", f.Drop(2), api.OK)
	n, e := f.Make(root, "d", nodes.Dir, "")
	wantsNode(t, "Make", n, e, 2, api.OK)
	if i, e := f.Stat(2); i != (nodes.Info{Kind: nodes.Dir, Names: 1}) || e != api.OK {
		t.Error(i, e)
	}
	if many, used := f.Used(); many != 2 || used != 0 {
		t.Error(many, used)
	}
}

func TestName_P5_2(t *testing.T) {
	// There is room neither for a node nor for a byte: a name needs none.
	f := built(t, 5, 4, "d /", "f =xyz", "d/l >f", "e /")
	for path, node := range map[string]int{"d/f": 3, "g": 3, "/d/" + long: 3, "m": 4, "e/m": 4} {
		wants(t, path, f.Name(node, root, path), api.OK)
	}
	wantsText(t, "Show", f.Show(), api.OK, "/d /\n/d/f =xyz\n/d/l >f\n/d/"+long+" =xyz\n/e /\n/e/m >f\n/f =xyz\n/g =xyz\n/m >f\n", api.OK)
	for node, want := range map[int]nodes.Info{3: {Kind: nodes.File, Size: 3, Names: 4}, 4: {Kind: nodes.Link, Size: 1, Names: 3}} {
		if i, e := f.Stat(node); i != want || e != api.OK {
			t.Error(node, i, e)
		}
	}
	// All names are of one node; a link is walked from where its name stands.
	wants(t, "Write", f.Write(3, 0, "a"), api.OK)
	for path, want := range map[string]int{"d/f": 3, "g": 3, "d/l": 3, "m": 3} {
		n, e := f.Walk(root, path, true)
		wantsNode(t, path, n, e, want, api.OK)
	}
	_, e := f.Walk(root, "e/m", true)
	wants(t, "e/m", e, api.ErrNone)
	for _, path := range []string{"f", "g", "d/f"} {
		wants(t, path, f.Remove(root, path), api.OK)
	}
	s, e := f.Read(3, 0, 9)
	wantsText(t, "the last name", s, e, "ayz", api.OK)
	wants(t, "the last name", f.Remove(2, long), api.OK)
	_, e = f.Stat(3)
	wants(t, "it is gone", e, api.ErrNone)
}

func TestNameOfHeld_P5_2(t *testing.T) {
	f := roomy(t, "f =xyz")
	wants(t, "Hold", f.Hold(2), api.OK)
	wants(t, "Remove", f.Remove(root, "f"), api.OK)
	wants(t, "Name", f.Name(2, root, "g"), api.OK)
	wants(t, "Drop", f.Drop(2), api.OK)
	wantsText(t, "Show", f.Show(), api.OK, "/g =xyz\n", api.OK)
}

func TestNameErrors_P5_2(t *testing.T) {
	f := partly(t, partlyUsed)
	all := lastParts()
	unchanged(t, f, "errors of Name", func() {
		for path, want := range all {
			for _, node := range []int{3, 4, 5} {
				wants(t, "Name "+path, f.Name(node, root, path), want)
			}
			for _, from := range []int{0, -1, 3, 5, 8} {
				wants(t, "from "+strconv.Itoa(from)+" "+path, f.Name(3, from, path), api.ErrArg)
			}
			for _, from := range []int{root, 0} {
				wants(t, "a directory "+path, f.Name(2, from, path), api.ErrDir)
				wants(t, "the root "+path, f.Name(root, from, path), api.ErrDir)
				for _, node := range []int{0, -1, 8, math.MinInt, math.MaxInt} {
					wants(t, "no node "+path, f.Name(node, from, path), api.ErrNone)
				}
			}
		}
	})
}

func TestRemove_P5_3(t *testing.T) {
	f := roomy(t, "d /", "d/e /", "d/e/f =x", "d/l >e", "m >d/l/", "n >none", "o >self")
	for _, c := range []struct {
		from int
		path string
		gone int
	}{{3, "f", 4}, {2, "e//", 3}, {1, "//d/l", 5}, {1, "m", 6}, {2, "../n", 7}, {2, "/o", 8}, {2, "../d/", 2}} {
		wants(t, c.path, f.Remove(c.from, c.path), api.OK)
		_, e := f.Stat(c.gone)
		wants(t, c.path+" is gone", e, api.ErrNone)
	}
	if many, used := f.Used(); many != 1 || used != 0 || f.Show() != "" {
		t.Error(many, used, f.Show())
	}
	// Links ahead of the last part are followed, that one is not.
	f = roomy(t, "d /", "d/f =x", "l >d", "m >l")
	wants(t, "m/f", f.Remove(root, "m/f"), api.OK)
	wants(t, "m", f.Remove(root, "m"), api.OK)
	wantsText(t, "Show", f.Show(), api.OK, "/d /\n/l >d\n", api.OK)
}

func TestRemoveErrors_P5_3(t *testing.T) {
	f := roomy(t, "d /", "d/f =x", "l >d", "f =", "self >self", "m >f", "empty >", "e /")
	unchanged(t, f, "errors of Remove", func() {
		for path, want := range map[string]api.Errno{
			"": api.ErrNone, strings.Repeat("/", 257): api.ErrBig, strings.Repeat("a", 257): api.ErrBig, "e" + strings.Repeat("/", 256): api.ErrBig,
			"none/f": api.ErrNone, "none/.": api.ErrNone, "f/x": api.ErrNoDir, "f/.": api.ErrNoDir, "f/..": api.ErrNoDir, "f/" + long + "x": api.ErrNoDir, "m/x": api.ErrNoDir, "self/x": api.ErrLoop, "self/.": api.ErrLoop, "empty/f": api.ErrNone, long + "x/f": api.ErrName, "d/f/f": api.ErrNoDir,
			".": api.ErrArg, "..": api.ErrArg, "/": api.ErrArg, "//": api.ErrArg, "./": api.ErrArg, "../": api.ErrArg, "d/.": api.ErrArg, "d/..": api.ErrArg, "e/.": api.ErrArg, "e/./": api.ErrArg, "/.": api.ErrArg, "/..": api.ErrArg, "l/.": api.ErrArg,
			long + "x": api.ErrName, long + "x/": api.ErrName, "\x00": api.ErrName, "d/\x00": api.ErrName,
			"none": api.ErrNone, "none/": api.ErrNone, "d/none": api.ErrNone, "l/none": api.ErrNone, long: api.ErrNone, "...": api.ErrNone,
			"f/": api.ErrNoDir, "d/f/": api.ErrNoDir, "l/": api.ErrNoDir, "l//": api.ErrNoDir, "self/": api.ErrNoDir, "empty/": api.ErrNoDir, "m/": api.ErrNoDir, "l/f/": api.ErrNoDir,
			"d": api.ErrFull, "d/": api.ErrFull, "/d": api.ErrFull, "e/../d": api.ErrFull,
		} {
			wants(t, path, f.Remove(root, path), want)
			for _, from := range []int{0, -1, 3, 4, 10, math.MaxInt} {
				wants(t, "from "+strconv.Itoa(from)+" "+path, f.Remove(from, path), api.ErrArg)
			}
		}
	})
	f = orphan(t)
	unchanged(t, f, "errors of Remove, from what has no name", func() {
		for path, want := range map[string]api.Errno{".": api.ErrArg, "..": api.ErrArg, "../f": api.ErrNone, "f": api.ErrNone, long + "x": api.ErrName, "/": api.ErrArg} {
			wants(t, path, f.Remove(2, path), want)
		}
	})
	wants(t, "/f", f.Remove(2, "/f"), api.OK)
}

// A directory that is removed while it is held lives on without a parent.
func TestRemoveHeld_P5_3(t *testing.T) {
	f := roomy(t, "d /", "d/e /")
	wants(t, "Hold", f.Hold(3), api.OK)
	wants(t, "Hold", f.Hold(3), api.OK)
	wants(t, "Remove", f.Remove(root, "d/e"), api.OK)
	wants(t, "Remove", f.Remove(root, "d"), api.OK)
	if i, e := f.Stat(3); i != (nodes.Info{Kind: nodes.Dir, Holds: 2}) || e != api.OK {
		t.Error(i, e)
	}
	_, e := f.Where(3)
	wants(t, "Where", e, api.ErrNone)
	// Its old place may have another one.
	n, e := f.Make(root, "d", nodes.Dir, "")
	wantsNode(t, "d", n, e, 2, api.OK)
	n, e = f.Make(root, "d/e", nodes.Dir, "")
	wantsNode(t, "d/e", n, e, 4, api.OK)
	_, e = f.Where(3)
	wants(t, "Where", e, api.ErrNone)
	_, e = f.Walk(3, "..", true)
	wants(t, "Walk", e, api.ErrNone)
	wants(t, "Drop", f.Drop(3), api.OK)
	if many, _ := f.Used(); many != 4 {
		t.Error(many)
	}
	wants(t, "Drop", f.Drop(3), api.OK)
	if many, _ := f.Used(); many != 3 {
		t.Error(many)
	}
}
