package nodes_test

import (
	"math"
	"slices"
	"strconv"
	"strings"
	"testing"

	"whelk/api"
	"whelk/nodes"
)

const root = 1

// long is the longest name there may be.
var long = strings.Repeat("n", api.MaxName)

// built is a tree of these nodes, each told as Show tells it (`d /`, `l >text`, `f =bytes`); their numbers are 2, 3 and so on.
func built(t *testing.T, most, room int, l ...string) *nodes.FS {
	t.Helper()
	f, e := nodes.New(most, room)
	if e != api.OK || f == nil {
		t.Fatal("New", most, room, f, e)
	}
	for i, s := range l {
		path, what, _ := strings.Cut(s, " ")
		kind := map[byte]int{'/': nodes.Dir, '=': nodes.File, '>': nodes.Link}[what[0]]
		if n, e := f.Make(root, path, kind, what[1:]); n != i+2 || e != api.OK {
			t.Fatal("Make", s, n, e)
		}
	}
	return f
}

// roomy is such a tree with as much room as there may be.
func roomy(t *testing.T, l ...string) *nodes.FS {
	t.Helper()
	return built(t, 1024, 1048576, l...)
}

// orphan is a tree with the directory 2, that is held and has no name any more, and the file f, that is 3.
func orphan(t *testing.T) *nodes.FS {
	t.Helper()
	f := roomy(t, "d /", "f =xy")
	wants(t, "Hold", f.Hold(2), api.OK)
	wants(t, "Remove", f.Remove(root, "d"), api.OK)
	return f
}

func wants(t *testing.T, what string, got, want api.Errno) {
	t.Helper()
	if got != want {
		t.Errorf("%s: %v, not %v", what, got, want)
	}
}

func wantsNode(t *testing.T, what string, got int, e api.Errno, node int, want api.Errno) {
	t.Helper()
	if got != node || e != want {
		t.Errorf("%s: %d, %v; not %d, %v", what, got, e, node, want)
	}
}

func wantsText(t *testing.T, what, got string, e api.Errno, text string, want api.Errno) {
	t.Helper()
	if got != text || e != want {
		t.Errorf("%s: %.80q, %v; not %.80q, %v", what, got, e, text, want)
	}
}

// unchanged does what must not change a tree.
func unchanged(t *testing.T, f *nodes.FS, what string, do func()) {
	t.Helper()
	was := allOf(f)
	do()
	if now := allOf(f); now != was {
		t.Errorf("%s: it was\n%s, it is\n%s", what, was, now)
	}
}

// allOf is all that is told of a tree's nodes, and of some numbers behind them.
func allOf(f tree) string {
	many, used := f.Used()
	out := f.Show() + told(many, used)
	for n := range many + 10 {
		i, e := f.Stat(n)
		out += "\n" + told(n, i.Kind, i.Size, i.Names, i.Holds, int(e))
		l, e := f.List(n)
		out += strings.Join(l, ",") + told(int(e))
		where, e := f.Where(n)
		out += where + told(int(e))
		bytes, e := f.Read(n, 0, math.MaxInt)
		out += strconv.Quote(bytes) + told(int(e))
	}
	return out
}

func told(l ...int) string {
	out := ""
	for _, n := range l {
		out += " " + strconv.Itoa(n)
	}
	return out + " "
}

func TestKinds_P5_1(t *testing.T) {
	if nodes.Dir != 1 || nodes.File != 2 || nodes.Link != 3 {
		t.Error(nodes.Dir, nodes.File, nodes.Link)
	}
}

func TestNew_P5_1(t *testing.T) {
	for _, c := range [][2]int{{1, 0}, {1, 1048576}, {1024, 0}, {1024, 1048576}, {7, 100}} {
		f, e := nodes.New(c[0], c[1])
		if f == nil || e != api.OK {
			t.Fatal(c, f, e)
		}
		many, used := f.Used()
		if many != 1 || used != 0 || f.Show() != "" {
			t.Error(c, many, used, f.Show())
		}
		if i, e := f.Stat(root); i != (nodes.Info{Kind: nodes.Dir}) || e != api.OK {
			t.Error(c, i, e)
		}
	}
	for _, c := range [][2]int{{0, 0}, {-1, 0}, {1025, 0}, {1, -1}, {1, 1048577}, {1024, 1048577}, {0, -1}, {math.MinInt, 5}, {math.MaxInt, 5}, {5, math.MinInt}, {5, math.MaxInt}} {
		if f, e := nodes.New(c[0], c[1]); f != nil || e != api.ErrArg {
			t.Error(c, f, e)
		}
	}
}

func TestWalk_P5_1(t *testing.T) {
	f := roomy(t, "d /", "d/e /", "d/e/f =x", "g =y", "l >d", "d/m >e/f", "d/n >/d/e", "d/o >../g", "p >d/m", "q >d/", "r >g/", "s >none", "t >/", "... =", long+" =", "d/u >.", "d/v >..", "w >//d//e//", "x >l/n", "d/y >n", "z >d/y/")
	const d, e, ef, g, l, m, n, o, p, q, r, s, top, dots, last, u, v, w, x, y, z = 2, 3, 4, 5, 6, 7, 8, 9, 10, 11, 12, 13, 14, 15, 16, 17, 18, 19, 20, 21, 22
	for path, want := range map[string]int{
		"/": root, "//": root, ".": root, "./": root, "..": root, "../..": root, "/..": root, "/.": root, "./.././": root,
		"d": d, "/d": d, "//d": d, "d/": d, "d//": d, "d/.": d, "./d": d, "../d": d, "d/../d": d, "d/e/..": d, "d/e/../": d,
		"d/e": e, "d//e": e, "/d///e///": e, "d/./e": e, "d/e/f": ef, "g": g, "d/../g": g, "d/e/../../g": g,
		"l/": d, "l/.": d, "l/..": root, "l/e": e, "l/e/f": ef, "l//e": e, "./l/e": e, "d/n/": e, "d/n/f": ef, "d/n/..": d, "d/n/../..": root,
		"q/": d, "q/e": e, "t/": root, "t/d": d, "t/t/t/d": d, "...": dots, long: last, "d/u/": d, "d/u/e": e, "d/v/": root, "d/v/g": g, "w/": e, "w/f": ef,
		"x/": e, "x/f": ef, "z/": e, "z/f": ef, "z/..": d,
	} {
		for _, follow := range []bool{false, true} {
			got, wrong := f.Walk(root, path, follow)
			wantsNode(t, path, got, wrong, want, api.OK)
		}
	}
	// A link at the end alone hangs on follow.
	for path, want := range map[string][2]int{
		"l": {l, d}, "d/m": {m, ef}, "d/n": {n, e}, "d/o": {o, g}, "p": {p, ef}, "q": {q, d}, "t": {top, root}, "d/u": {u, d}, "d/v": {v, root}, "w": {w, e}, "x": {x, e}, "d/y": {y, e}, "z": {z, e},
		"l/m": {m, ef}, "l/n": {n, e}, "q/o": {o, g}, "./l": {l, d}, "/l": {l, d}, "../l": {l, d}, "d/../l": {l, d}, "d/u/u": {u, d}, "t/t": {top, root},
	} {
		got, wrong := f.Walk(root, path, false)
		wantsNode(t, path+", not followed", got, wrong, want[0], api.OK)
		got, wrong = f.Walk(root, path, true)
		wantsNode(t, path+", followed", got, wrong, want[1], api.OK)
	}
	for path, want := range map[string][2]int{"r": {r, 0}, "s": {s, 0}} {
		got, wrong := f.Walk(root, path, false)
		wantsNode(t, path+", not followed", got, wrong, want[0], api.OK)
	}
	_, wrong := f.Walk(root, "r", true)
	wants(t, "a link to a file and a /", wrong, api.ErrNoDir)
	_, wrong = f.Walk(root, "s", true)
	wants(t, "a link to nothing", wrong, api.ErrNone)
}

func TestWalkFrom_P5_1(t *testing.T) {
	f := roomy(t, "d /", "d/e /", "d/e/f =", "f =", "l >d")
	for _, c := range []struct {
		from int
		path string
		want int
	}{{2, "e", 3}, {3, "f", 4}, {3, "../..", 1}, {3, "..", 2}, {3, ".", 3}, {3, "/f", 5}, {3, "/", 1}, {2, "../f", 5}, {2, "..", 1}, {2, "../..", 1}, {3, "/l/e", 3}, {3, "../../l", 2}} {
		got, e := f.Walk(c.from, c.path, true)
		wantsNode(t, c.path, got, e, c.want, api.OK)
	}
	for _, from := range []int{0, -1, 4, 5, 6, 7, 1025, math.MinInt, math.MaxInt} {
		for _, path := range []string{"", ".", "/", "f", "none", strings.Repeat("a", 300)} {
			got, e := f.Walk(from, path, true)
			wantsNode(t, "from "+strconv.Itoa(from)+" "+path, got, e, 0, api.ErrArg)
		}
	}
}

func TestWalkErrors_P5_1(t *testing.T) {
	f := roomy(t, "d /", "f =x", "l >f", "m >d", "e >", "big >"+strings.Repeat("/", 257), "d/n >../f/", "d/o >"+long+"x", "p >d/n", "self >self", "s >self/x")
	for path, want := range map[string]api.Errno{
		"": api.ErrNone, "none": api.ErrNone, "none/": api.ErrNone, "none/x": api.ErrNone, "d/none": api.ErrNone, "/none": api.ErrNone, "d/none/..": api.ErrNone,
		"f/": api.ErrNoDir, "f//": api.ErrNoDir, "f/.": api.ErrNoDir, "f/..": api.ErrNoDir, "f/x": api.ErrNoDir, "f/" + long + "x": api.ErrNoDir, "f/\x00": api.ErrNoDir, "/f/": api.ErrNoDir, "d/../f/": api.ErrNoDir,
		"l/": api.ErrNoDir, "l/.": api.ErrNoDir, "l/..": api.ErrNoDir, "l/x": api.ErrNoDir, "d/n/": api.ErrNoDir, "d/n/x": api.ErrNoDir, "p/": api.ErrNoDir,
		long + "x": api.ErrName, "/" + long + "x": api.ErrName, long + "x/": api.ErrName, "d/" + long + "x": api.ErrName, "d/" + long + "x/y": api.ErrName, "\x00": api.ErrName, "a\x00": api.ErrName, "d/\x00/..": api.ErrName, "m/" + long + "x": api.ErrName,
		long: api.ErrNone, "none/" + long + "x": api.ErrNone, "\n": api.ErrNone, " ": api.ErrNone, "\xff": api.ErrNone, "F": api.ErrNone, "....": api.ErrNone, ". ": api.ErrNone,
		"e/": api.ErrNone, "e/x": api.ErrNone, "big/": api.ErrBig, "big/f": api.ErrBig, "self/": api.ErrLoop, "self/x": api.ErrLoop, "s/": api.ErrLoop,
		strings.Repeat("/", 257): api.ErrBig, strings.Repeat("a", 257): api.ErrBig, strings.Repeat("\x00", 257): api.ErrBig, "none/" + strings.Repeat("x", 252): api.ErrBig, strings.Repeat("./", 1<<20): api.ErrBig,
	} {
		for _, follow := range []bool{false, true} {
			got, e := f.Walk(root, path, follow)
			wantsNode(t, path, got, e, 0, want)
		}
	}
	for path, want := range map[string]api.Errno{"d/n": api.ErrNoDir, "p": api.ErrNoDir, "e": api.ErrNone, "big": api.ErrBig, "d/o": api.ErrName, "self": api.ErrLoop, "s": api.ErrLoop} {
		got, e := f.Walk(root, path, true)
		wantsNode(t, path, got, e, 0, want)
		if got, e := f.Walk(root, path, false); got == 0 || e != api.OK {
			t.Error(path, got, e)
		}
	}
}

func TestWalkLongPaths_P5_1(t *testing.T) {
	f := roomy(t, "d /", "l >"+strings.Repeat("/", 255)+"d", "m >"+strings.Repeat("/", 256)+"d", "n >"+strings.Repeat("./", 127)+"d/", "o >"+strings.Repeat("./", 128)+"d")
	for path, want := range map[string]api.Errno{strings.Repeat("/", 256): api.OK, strings.Repeat("/", 255) + "d": api.OK, strings.Repeat("/", 256) + "d": api.ErrBig, "d" + strings.Repeat("/", 255): api.OK, "d" + strings.Repeat("/", 256): api.ErrBig, "l": api.OK, "m": api.ErrBig, "n": api.OK, "o": api.ErrBig,
		// What is behind a link does not count with its text.
		"l/" + strings.Repeat("./", 127): api.OK, "l/" + strings.Repeat("./", 127) + ".": api.ErrBig} {
		_, e := f.Walk(root, path, true)
		wants(t, path, e, want)
	}
}

func TestWalkManyLinks_P5_1(t *testing.T) {
	// The link of each number is to the one ahead of it; the first one is to the root.
	l := []string{"0 >."}
	for i := range 9 {
		l = append(l, strconv.Itoa(i+1)+" >"+strconv.Itoa(i))
	}
	f := roomy(t, append(l, "f =", "a >8", "b >8/..", "here >.", "e >", "to-e >e")...)
	for path, want := range map[string]api.Errno{
		"7": api.OK, "8": api.ErrLoop, "9": api.ErrLoop, "7/": api.OK, "8/": api.ErrLoop, "7/f": api.OK, "8/f": api.ErrLoop, "a": api.ErrLoop, "b": api.ErrLoop,
		"6/0": api.OK, "6/0/0": api.ErrLoop, "3/3": api.OK, "3/4": api.ErrLoop, "0/0/0/0/0/0/0/0": api.OK, "0/0/0/0/0/0/0/0/": api.OK, "0/0/0/0/0/0/0/0/f": api.OK, "0/0/0/0/0/0/0/0/0": api.ErrLoop, "0/0/0/0/0/0/0/0/0/f": api.ErrLoop,
		"7/none": api.ErrNone, "8/none": api.ErrLoop, "7/f/": api.ErrNoDir,
		// The ninth link is not walked, be its text what it may.
		"7/e": api.ErrLoop, "6/e": api.ErrNone, "6/to-e": api.ErrLoop, "5/to-e": api.ErrNone,
	} {
		_, e := f.Walk(root, path, true)
		wants(t, path, e, want)
	}
	for path, want := range map[string]api.Errno{"8": api.OK, "7/9": api.OK, "6/0/0": api.OK, "8/9": api.ErrLoop, "0/0/0/0/0/0/0/0/0": api.OK, "0/0/0/0/0/0/0/0/0/": api.ErrLoop} {
		_, e := f.Walk(root, path, false)
		wants(t, path+", not followed", e, want)
	}
	// Each walk counts from its beginning on.
	for range 20 {
		got, e := f.Walk(root, "7", true)
		wantsNode(t, "7 again", got, e, root, api.OK)
	}
}

func TestWalkOrphan_P5_1(t *testing.T) {
	f := orphan(t)
	for path, want := range map[string]int{".": 2, "./": 2, "././.": 2, "/": root, "/f": 3, "/..": root} {
		got, e := f.Walk(2, path, true)
		wantsNode(t, path, got, e, want, api.OK)
	}
	for path, want := range map[string]api.Errno{"..": api.ErrNone, "./..": api.ErrNone, "../f": api.ErrNone, "f": api.ErrNone, "": api.ErrNone, "../" + long + "x": api.ErrNone, long + "x": api.ErrName, "/f/": api.ErrNoDir} {
		got, e := f.Walk(2, path, true)
		wantsNode(t, path, got, e, 0, want)
	}
	wants(t, "Drop", f.Drop(2), api.OK)
	got, e := f.Walk(2, ".", true)
	wantsNode(t, "it is gone", got, e, 0, api.ErrArg)
}

// Of a nil tree all calls answer ErrNil, 0 or nothing, be the arguments what they may.
func TestNil_P5_1(t *testing.T) {
	var f *nodes.FS
	n, e := f.Walk(-1, "", true)
	wantsNode(t, "Walk", n, e, 0, api.ErrNil)
	n, e = f.Make(-1, "", 0, strings.Repeat("a", 5000))
	wantsNode(t, "Make", n, e, 0, api.ErrNil)
	wants(t, "Name", f.Name(-1, -1, ""), api.ErrNil)
	wants(t, "Remove", f.Remove(-1, ""), api.ErrNil)
	s, e := f.Read(1, -1, -1)
	wantsText(t, "Read", s, e, "", api.ErrNil)
	wants(t, "Write", f.Write(1, -1, "a"), api.ErrNil)
	wants(t, "Cut", f.Cut(1, -1), api.ErrNil)
	l, e := f.List(1)
	wantsText(t, "List", strings.Join(l, ","), e, "", api.ErrNil)
	if i, e := f.Stat(1); i != (nodes.Info{}) || e != api.ErrNil {
		t.Error("Stat", i, e)
	}
	wants(t, "Hold", f.Hold(1), api.ErrNil)
	wants(t, "Drop", f.Drop(1), api.ErrNil)
	s, e = f.Where(1)
	wantsText(t, "Where", s, e, "", api.ErrNil)
	if many, used := f.Used(); many != 0 || used != 0 {
		t.Error("Used", many, used)
	}
	wantsText(t, "Show", f.Show(), api.OK, "", api.OK)
}

// R1: a tree that New did not make has no nodes, and nothing panics.
func TestNotMade_R1(t *testing.T) {
	f := &nodes.FS{}
	n, e := f.Walk(root, "/", true)
	wantsNode(t, "Walk", n, e, 0, api.ErrArg)
	n, e = f.Make(root, "a", nodes.File, "")
	wantsNode(t, "Make", n, e, 0, api.ErrArg)
	wants(t, "Name", f.Name(root, root, "a"), api.ErrNone)
	wants(t, "Remove", f.Remove(root, "a"), api.ErrArg)
	wants(t, "Write", f.Write(root, 0, "a"), api.ErrNone)
	wants(t, "Cut", f.Cut(root, 0), api.ErrNone)
	wants(t, "Hold", f.Hold(root), api.ErrNone)
	wants(t, "Drop", f.Drop(root), api.ErrNone)
	if many, used := f.Used(); many != 0 || used != 0 || f.Show() != "" {
		t.Error(many, used, f.Show())
	}
	allOf(f)
}

func TestExamples_P5(t *testing.T) {
	f := roomy(t, "d /", "d/f =xy", "l >d/f")
	for follow, want := range map[bool]int{true: 3, false: 4} {
		n, e := f.Walk(root, "l", follow)
		wantsNode(t, "l", n, e, want, api.OK)
		n, e = f.Walk(root, "l/", follow)
		wantsNode(t, "l/", n, e, 0, api.ErrNoDir)
	}
	wants(t, "Remove d", f.Remove(root, "d"), api.ErrFull)
	wants(t, "Hold", f.Hold(3), api.OK)
	wants(t, "Remove d/f", f.Remove(root, "d/f"), api.OK)
	s, e := f.Read(3, 0, 9)
	wantsText(t, "Read", s, e, "xy", api.OK)
	wants(t, "Drop", f.Drop(3), api.OK)
	s, e = f.Read(3, 0, 9)
	wantsText(t, "Read of what is gone", s, e, "", api.ErrNone)
}

// R3: two trees do not know of one another.
func TestTreesApart_R3(t *testing.T) {
	f, g := roomy(t, "a =1"), roomy(t, "b /")
	wants(t, "Write", f.Write(2, 1, "2"), api.OK)
	wants(t, "Hold", g.Hold(2), api.OK)
	wants(t, "Remove", g.Remove(root, "b"), api.OK)
	if f.Show() != "/a =12\n" || g.Show() != "" {
		t.Error(f.Show(), g.Show())
	}
	if i, e := f.Stat(2); i != (nodes.Info{Kind: nodes.File, Size: 2, Names: 1}) || e != api.OK {
		t.Error(i, e)
	}
}

// R2: lists that are answered are the caller's.
func TestListsAreNew_R2(t *testing.T) {
	f := roomy(t, "a =", "b =", "c =")
	l, _ := f.List(root)
	for i := range l[:cap(l)] {
		l[:cap(l)][i] = "#"
	}
	if again, e := f.List(root); !slices.Equal(again, []string{"a", "b", "c"}) || e != api.OK {
		t.Error(again, e)
	}
}
