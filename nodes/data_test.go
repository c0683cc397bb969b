package nodes_test

import (
	"math"
	"slices"
	"strings"
	"testing"

	"whelk/api"
	"whelk/nodes"
)

// none is numbers that no node of a small tree has.
var none = []int{0, -1, 9, 1024, math.MinInt, math.MaxInt}

func TestRead_P5_4(t *testing.T) {
	f := roomy(t, "f =abcdef", "l >some/text", "e =", "d /")
	for _, c := range []struct {
		node, at, n int
		want        string
	}{
		{2, 0, 6, "abcdef"}, {2, 0, 9, "abcdef"}, {2, 0, 3, "abc"}, {2, 2, 3, "cde"}, {2, 5, 1, "f"}, {2, 5, 2, "f"}, {2, 6, 1, ""}, {2, 7, 1, ""}, {2, 0, 0, ""}, {2, 3, 0, ""},
		{2, 0, math.MaxInt, "abcdef"}, {2, 4, math.MaxInt, "ef"}, {2, math.MaxInt, math.MaxInt, ""}, {2, math.MaxInt, 1, ""}, {2, 5000, 5, ""},
		{3, 0, 99, "some/text"}, {3, 5, 2, "te"}, {3, 9, 1, ""}, {4, 0, 5, ""}, {4, 5, 0, ""},
	} {
		got, e := f.Read(c.node, c.at, c.n)
		wantsText(t, "Read"+told(c.node, c.at, c.n), got, e, c.want, api.OK)
	}
	for _, c := range [][3]int{{2, -1, 0}, {2, 0, -1}, {2, -1, -1}, {3, -1, 5}, {3, 5, -1}, {2, math.MinInt, 5}, {2, 5, math.MinInt}, {2, 9, -1}} {
		got, e := f.Read(c[0], c[1], c[2])
		wantsText(t, "Read"+told(c[:]...), got, e, "", api.ErrArg)
	}
	for _, at := range []int{0, -1} {
		for _, node := range []int{root, 5} {
			got, e := f.Read(node, at, at)
			wantsText(t, "of a directory", got, e, "", api.ErrDir)
		}
		for _, node := range none {
			got, e := f.Read(node, at, at)
			wantsText(t, "of no node", got, e, "", api.ErrNone)
		}
	}
}

func TestWrite_P5_4(t *testing.T) {
	for _, c := range []struct {
		was  string
		at   int
		data string
		want string
	}{
		{"", 0, "ab", "ab"}, {"abcdef", 0, "X", "Xbcdef"}, {"abcdef", 2, "XY", "abXYef"}, {"abcdef", 4, "XY", "abcdXY"}, {"abcdef", 4, "XYZ", "abcdXYZ"}, {"abcdef", 6, "X", "abcdefX"}, {"abcdef", 0, "123456", "123456"}, {"abcdef", 0, "1234567", "1234567"},
		{"ab", 4, "X", "ab\x00\x00X"}, {"", 3, "X", "\x00\x00\x00X"}, {"a", 1, "\x00", "a\x00"}, {"abc", 1, "\n\\", "a\n\\"},
		{"abc", 0, "", "abc"}, {"abc", 2, "", "abc"}, {"abc", 3, "", "abc"}, {"abc", 9, "", "abc"}, {"abc", 4096, "", "abc"}, {"", 4096, "", ""},
		{"", 4095, "X", strings.Repeat("\x00", 4095) + "X"}, {"ab", 0, strings.Repeat("c", 4096), strings.Repeat("c", 4096)}, {strings.Repeat("a", 4096), 4090, "123456", strings.Repeat("a", 4090) + "123456"},
	} {
		f := roomy(t, "f ="+c.was)
		wants(t, c.data, f.Write(2, c.at, c.data), api.OK)
		got, e := f.Read(2, 0, 5000)
		wantsText(t, "Write"+told(c.at)+c.data, got, e, c.want, api.OK)
		if i, e := f.Stat(2); i.Size != len(c.want) || e != api.OK {
			t.Error(c.data, i, e)
		}
		if many, used := f.Used(); many != 2 || used != len(c.want) {
			t.Error(c.data, many, used)
		}
	}
}

func TestWriteErrors_P5_4(t *testing.T) {
	// The room is full: that is named last.
	f := built(t, 9, 6, "f =abc", "l >f", "d /", "e =12")
	unchanged(t, f, "errors of Write", func() {
		big := strings.Repeat("a", 4097)
		for _, c := range []struct {
			node, at int
			data     string
			want     api.Errno
		}{
			{2, -1, "", api.ErrArg}, {2, -1, "a", api.ErrArg}, {2, math.MinInt, "a", api.ErrArg}, {2, -1, big, api.ErrArg}, {3, 0, "", api.ErrArg}, {3, 0, "a", api.ErrArg}, {3, 5000, big, api.ErrArg}, {3, -1, "a", api.ErrArg},
			{2, 4097, "", api.ErrBig}, {2, 4097, "a", api.ErrBig}, {2, 4096, "a", api.ErrBig}, {2, 0, big, api.ErrBig}, {2, 1, big[1:], api.ErrBig}, {2, 4095, "ab", api.ErrBig}, {2, math.MaxInt, "", api.ErrBig}, {2, math.MaxInt, "a", api.ErrBig}, {2, math.MaxInt, big, api.ErrBig},
			{2, 3, "a", api.ErrRoom}, {2, 0, "abcd", api.ErrRoom}, {2, 2, "cd", api.ErrRoom}, {2, 4, "a", api.ErrRoom}, {2, 4095, "a", api.ErrRoom}, {2, 0, big[1:], api.ErrRoom}, {5, 2, "a", api.ErrRoom},
			{2, 9, "", api.OK}, {2, 0, "abc", api.OK}, {5, 1, "2", api.OK},
		} {
			wants(t, "Write"+told(c.node, c.at, len(c.data)), f.Write(c.node, c.at, c.data), c.want)
		}
		for _, data := range []string{"", "a", big} {
			for _, at := range []int{0, -1, 5000} {
				wants(t, "the root", f.Write(root, at, data), api.ErrDir)
				wants(t, "a directory", f.Write(4, at, data), api.ErrDir)
				for _, node := range none {
					wants(t, "no node", f.Write(node, at, data), api.ErrNone)
				}
			}
		}
	})
}

func TestWriteRoom_P5_4(t *testing.T) {
	f := built(t, 9, 10, "f =abc", "l >12")
	wants(t, "a byte too much, with those ahead of it", f.Write(2, 8, "x"), api.ErrRoom)
	wants(t, "all that there is", f.Write(2, 7, "x"), api.OK)
	wants(t, "what is there already", f.Write(2, 0, "12345678"), api.OK)
	wants(t, "one more", f.Write(2, 8, "9"), api.ErrRoom)
	wants(t, "Cut", f.Cut(2, 7), api.OK)
	wants(t, "one again", f.Write(2, 7, "9"), api.OK)
	wants(t, "Remove", f.Remove(root, "l"), api.OK)
	wants(t, "two more", f.Write(2, 8, "ab"), api.OK)
	wantsText(t, "Show", f.Show(), api.OK, "/f =12345679ab\n", api.OK)
}

// A file that is held, but has no name, is read and written as any other.
func TestWriteHeld_P5_4(t *testing.T) {
	f := built(t, 9, 5, "f =abc")
	wants(t, "Hold", f.Hold(2), api.OK)
	wants(t, "Remove", f.Remove(root, "f"), api.OK)
	wants(t, "Write", f.Write(2, 4, "e"), api.OK)
	wants(t, "Cut", f.Cut(2, 4), api.OK)
	s, e := f.Read(2, 0, 9)
	wantsText(t, "Read", s, e, "abc\x00", api.OK)
	n, e := f.Make(root, "g", nodes.File, "12")
	wantsNode(t, "its bytes count", n, e, 0, api.ErrRoom)
	wants(t, "Drop", f.Drop(2), api.OK)
	n, e = f.Make(root, "g", nodes.File, "12345")
	wantsNode(t, "they are gone", n, e, 2, api.OK)
}

func TestCut_P5_4(t *testing.T) {
	f := roomy(t, "f =abcdef", "l >abc", "d /", "e =")
	for _, c := range []struct {
		size int
		want string
	}{{6, "abcdef"}, {4, "abcd"}, {4, "abcd"}, {1, "a"}, {0, ""}, {0, ""}} {
		wants(t, "Cut", f.Cut(2, c.size), api.OK)
		got, e := f.Read(2, 0, 99)
		wantsText(t, "Cut"+told(c.size), got, e, c.want, api.OK)
		if many, used := f.Used(); many != 5 || used != 3+len(c.want) {
			t.Error(c.size, many, used)
		}
	}
	wants(t, "Cut of nothing", f.Cut(5, 0), api.OK)
	// What was cut off does not come back.
	wants(t, "Write", f.Write(2, 0, "abcdef"), api.OK)
	wants(t, "Cut", f.Cut(2, 1), api.OK)
	wants(t, "Write", f.Write(2, 4, "e"), api.OK)
	got, e := f.Read(2, 0, 99)
	wantsText(t, "Read", got, e, "a\x00\x00\x00e", api.OK)
	unchanged(t, f, "errors of Cut", func() {
		for _, size := range []int{-1, 6, 4096, 4097, math.MinInt, math.MaxInt} {
			wants(t, "Cut"+told(size), f.Cut(2, size), api.ErrArg)
		}
		wants(t, "Cut of nothing", f.Cut(5, 1), api.ErrArg)
		for _, size := range []int{-1, 0, 1, 3, 4} {
			wants(t, "a link", f.Cut(3, size), api.ErrArg)
			wants(t, "a directory", f.Cut(4, size), api.ErrDir)
			wants(t, "the root", f.Cut(root, size), api.ErrDir)
			for _, node := range none {
				wants(t, "no node", f.Cut(node, size), api.ErrNone)
			}
		}
	})
}

func TestList_P5_5(t *testing.T) {
	f := roomy(t, "d /", "b =", "a >", "d/x /", "d/x/y =", "B =", "a0 =", "a\xff =", "a\n =", "e /")
	for node, want := range map[int][]string{root: {"B", "a", "a\n", "a0", "a\xff", "b", "d", "e"}, 2: {"x"}, 5: {"y"}, 11: nil} {
		if got, e := f.List(node); !slices.Equal(got, want) || e != api.OK {
			t.Errorf("%d: %q, %v", node, got, e)
		}
	}
	wants(t, "Remove", f.Remove(root, "a0"), api.OK)
	wants(t, "Name", f.Name(3, root, "c"), api.OK)
	if got, e := f.List(root); !slices.Equal(got, []string{"B", "a", "a\n", "a\xff", "b", "c", "d", "e"}) || e != api.OK {
		t.Errorf("%q, %v", got, e)
	}
	for node, want := range map[int]api.Errno{3: api.ErrNoDir, 4: api.ErrNoDir, 0: api.ErrNone, -1: api.ErrNone, 12: api.ErrNone, math.MaxInt: api.ErrNone} {
		got, e := f.List(node)
		wantsText(t, "List"+told(node), strings.Join(got, ","), e, "", want)
	}
	f = orphan(t)
	got, e := f.List(2)
	wantsText(t, "of what has no name", strings.Join(got, ","), e, "", api.OK)
}

func TestStat_P5_5(t *testing.T) {
	f := roomy(t, "d /", "d/f =abc", "d/l >some", "d/e /", "d/e/g =")
	wants(t, "Name", f.Name(3, root, "h"), api.OK)
	wants(t, "Hold", f.Hold(3), api.OK)
	wants(t, "Hold", f.Hold(root), api.OK)
	for node, want := range map[int]nodes.Info{
		root: {Kind: nodes.Dir, Size: 2, Holds: 1},
		2:    {Kind: nodes.Dir, Size: 3, Names: 1},
		3:    {Kind: nodes.File, Size: 3, Names: 2, Holds: 1},
		4:    {Kind: nodes.Link, Size: 4, Names: 1},
		5:    {Kind: nodes.Dir, Size: 1, Names: 1},
		6:    {Kind: nodes.File, Names: 1},
	} {
		if got, e := f.Stat(node); got != want || e != api.OK {
			t.Error(node, got, e)
		}
	}
	for _, node := range none {
		if got, e := f.Stat(node); got != (nodes.Info{}) || e != api.ErrNone {
			t.Error(node, got, e)
		}
	}
}

func TestHoldAndDrop_P5_5(t *testing.T) {
	f := roomy(t, "d /", "f =ab", "l >abc")
	// What has a name, and the root, live without holds.
	for _, node := range []int{root, 2, 3, 4} {
		wants(t, "Drop", f.Drop(node), api.ErrArg)
		for range 3 {
			wants(t, "Hold", f.Hold(node), api.OK)
		}
		for n := range 3 {
			if i, e := f.Stat(node); i.Holds != 3-n || e != api.OK {
				t.Error(node, i, e)
			}
			wants(t, "Drop", f.Drop(node), api.OK)
		}
		wants(t, "Drop", f.Drop(node), api.ErrArg)
	}
	// What has none lives by its last hold.
	for node, path := range map[int]string{2: "d", 3: "f", 4: "l"} {
		wants(t, "Hold", f.Hold(node), api.OK)
		wants(t, "Hold", f.Hold(node), api.OK)
		wants(t, "Remove", f.Remove(root, path), api.OK)
		wants(t, "Drop", f.Drop(node), api.OK)
		if i, e := f.Stat(node); i.Names != 0 || i.Holds != 1 || e != api.OK {
			t.Error(node, i, e)
		}
		wants(t, "Drop", f.Drop(node), api.OK)
		for _, e := range []api.Errno{f.Drop(node), f.Hold(node)} {
			wants(t, "it is gone", e, api.ErrNone)
		}
	}
	if many, used := f.Used(); many != 1 || used != 0 {
		t.Error(many, used)
	}
	for _, node := range none {
		wants(t, "Hold", f.Hold(node), api.ErrNone)
		wants(t, "Drop", f.Drop(node), api.ErrNone)
	}
}

func TestWhere_P5_5(t *testing.T) {
	f := roomy(t, "d /", "d/e /", "d/e/"+long+" /", "f =", "l >d", "\x01\n /")
	for node, want := range map[int]string{root: "/", 2: "/d", 3: "/d/e", 4: "/d/e/" + long, 7: "/\x01\n"} {
		got, e := f.Where(node)
		wantsText(t, "Where", got, e, want, api.OK)
	}
	for node, want := range map[int]api.Errno{5: api.ErrNoDir, 6: api.ErrNoDir, 0: api.ErrNone, 8: api.ErrNone, -1: api.ErrNone, math.MaxInt: api.ErrNone} {
		got, e := f.Where(node)
		wantsText(t, "Where"+told(node), got, e, "", want)
	}
	got, e := orphan(t).Where(2)
	wantsText(t, "without a name", got, e, "", api.ErrNone)
}

func TestUsed_P5_5(t *testing.T) {
	f := built(t, 9, 99, "d /", "d/f =abc", "d/l >some/text", "g =")
	used := func(what string, many, bytes int) {
		t.Helper()
		if m, b := f.Used(); m != many || b != bytes {
			t.Error(what, m, b)
		}
	}
	used("as it is made", 5, 12)
	wants(t, "Name", f.Name(3, root, "h"), api.OK)
	used("a name more", 5, 12)
	wants(t, "Hold", f.Hold(3), api.OK)
	wants(t, "Remove", f.Remove(root, "h"), api.OK)
	wants(t, "Remove", f.Remove(root, "d/f"), api.OK)
	used("a file without a name", 5, 12)
	wants(t, "Write", f.Write(3, 4, "x"), api.OK)
	used("two bytes more", 5, 14)
	wants(t, "Drop", f.Drop(3), api.OK)
	used("it is gone", 4, 9)
	wants(t, "Remove", f.Remove(root, "d/l"), api.OK)
	used("a link less", 3, 0)
}

func TestShow_P5_6(t *testing.T) {
	f := roomy(t)
	wantsText(t, "the root alone", f.Show(), api.OK, "", api.OK)
	f = roomy(t, "b /", "b/f =xy", "a /", "a/z >b", "a/a /", "a/a/x =", "c =a\nb\\n\\\n\n", "l >", "B =\x00\xff\t ", "a! /", "a!/f =z", "e /", "m >../b /")
	wants(t, "Name", f.Name(3, 4, "f2"), api.OK)
	// The names of a directory are sorted, not the paths: /a! stands behind all of /a.
	wantsText(t, "Show", f.Show(), api.OK, "/B =\x00\xff\t \n"+
		"/a /\n/a/a /\n/a/a/x =\n/a/f2 =xy\n/a/z >b\n"+
		"/a! /\n/a!/f =z\n"+
		"/b /\n/b/f =xy\n"+
		"/c =a\\nb\\\\n\\\\\\n\\n\n"+
		"/e /\n/l >\n/m >../b /\n", api.OK)
	// What has no name is not shown.
	wants(t, "Hold", f.Hold(3), api.OK)
	wants(t, "Remove", f.Remove(root, "b/f"), api.OK)
	wants(t, "Remove", f.Remove(root, "a/f2"), api.OK)
	if s := f.Show(); strings.Contains(s, "xy") || strings.Contains(s, "b/f") {
		t.Error(s)
	}
}

// A tree as deep as it may be is told, walked and taken away.
func TestDeepest_P5_7(t *testing.T) {
	f := roomy(t)
	at, where := root, ""
	for i := range 1023 {
		n, e := f.Make(at, long, nodes.Dir, "")
		wantsNode(t, "Make", n, e, i+2, api.OK)
		at, where = n, where+"/"+long
	}
	got, e := f.Where(at)
	wantsText(t, "Where", got, e, where, api.OK)
	want := 0
	for i := range 1023 {
		want += (i+1)*(len(long)+1) + len(" /\n")
	}
	if s := f.Show(); len(s) != want || !strings.HasSuffix(s, "\n"+where+" /\n") {
		t.Error(len(s), want)
	}
	for n := at; n > root; n-- {
		up, e := f.Walk(n, "..", true)
		wantsNode(t, "..", up, e, n-1, api.OK)
		wants(t, "Remove", f.Remove(up, long), api.OK)
	}
	if many, used := f.Used(); many != 1 || used != 0 {
		t.Error(many, used)
	}
}
