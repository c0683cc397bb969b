package proc_test

import (
	"math"
	"slices"
	"strings"
	"testing"

	"whelk/api"
	"whelk/handles"
	"whelk/nodes"
)

func TestPut_P9_2(t *testing.T) {
	w := roomy(t)
	a, b := w.text("aaa"), w.text("bbb")
	w.good(w.Put(0, a), w.Put(15, a), w.Put(7, b))
	w.opens(0, a, 7, b, 15, a)
	w.handles(a, 3, b, 2)
	w.good(w.Put(0, b))
	w.opens(0, b, 7, b, 15, a)
	w.handles(a, 2, b, 3)
	// The same again: one ref more, and one less.
	w.good(w.Put(0, b))
	w.handles(a, 2, b, 3)
	w.good(w.table.Unref(a), w.table.Unref(b))
	w.good(w.Put(15, b))
	w.handles(b, 3)
	w.good(w.Put(0, b), w.Close(7), w.Close(0), w.Put(15, b))
	w.opens(15, b)
	w.handles(b, 1)
}

func TestPutErrors_P9_2(t *testing.T) {
	w := roomy(t)
	id := w.text("abc")
	w.good(w.Put(3, id))
	w.unchanged("a wrong Put", func() {
		for _, fd := range noFds() {
			for _, id := range []int{id, 0, 77} {
				w.wants("Put"+told(fd, id), w.Put(fd, id), api.ErrFd)
			}
		}
		for _, no := range []int{0, id + 1, 77, -1, -id, math.MinInt, math.MaxInt} {
			for _, fd := range []int{0, 3, 15} {
				w.wants("Put"+told(fd, no), w.Put(fd, no), api.ErrArg)
			}
		}
	})
}

func TestDup_P9_2(t *testing.T) {
	w := roomy(t)
	a, b := w.text("aaa"), w.text("bbb")
	w.good(w.Put(0, a), w.Put(1, b), w.table.Unref(a), w.table.Unref(b))
	w.good(w.Dup(15, 0))
	w.opens(0, a, 1, b, 15, a)
	w.handles(a, 2, b, 1)
	w.unchanged("Dup of itself", func() {
		w.good(w.Dup(0, 0), w.Dup(1, 1), w.Dup(15, 15), w.Dup(0, 15))
	})
	w.good(w.Dup(1, 0))
	w.opens(0, a, 1, a, 15, a)
	w.handles(a, 3)
	// All of them have one place.
	w.reads(0, 1, "a", api.OK)
	w.reads(15, 1, "a", api.OK)
	w.reads(1, 9, "a", api.OK)
}

func TestDupErrors_P9_2(t *testing.T) {
	w := roomy(t)
	w.good(w.Put(3, w.text("abc")))
	w.unchanged("a wrong Dup", func() {
		for _, fd := range noFds() {
			for _, other := range append(noFds(), 3, 4) {
				w.wants("Dup"+told(fd, other), w.Dup(fd, other), api.ErrFd)
				w.wants("Dup"+told(other, fd), w.Dup(other, fd), api.ErrFd)
			}
		}
		for fd := range api.MaxFd {
			if fd != 3 {
				w.wants("Dup"+told(3, fd), w.Dup(3, fd), api.ErrFd)
				w.wants("Dup"+told(fd, fd), w.Dup(fd, fd), api.ErrFd)
			}
		}
	})
}

func TestClose_P9_2(t *testing.T) {
	w := roomy(t)
	id := w.text("abc")
	w.good(w.Put(0, id), w.Put(15, id), w.table.Unref(id))
	w.good(w.Close(0))
	w.opens(15, id)
	w.handles(id, 1)
	w.unchanged("Close of what is not open", func() { w.good(w.Close(0), w.Close(7), w.Close(0)) })
	w.good(w.Close(15))
	w.opens()
	w.handles()
	w.unchanged("a wrong Close", func() {
		for _, fd := range noFds() {
			w.wants("Close"+told(fd), w.Close(fd), api.ErrFd)
		}
	})
}

// A pipe is closed, and a file left, with the last fd that has it.
func TestLastFd_P9_2(t *testing.T) {
	w := roomy(t)
	from, to, _ := w.table.Pipe()
	w.good(w.Put(0, from), w.Put(1, to), w.Dup(2, 1), w.table.Unref(from), w.table.Unref(to))
	w.good(w.Write(1, "ab"), w.Close(1), w.Write(2, "cd"), w.Close(2))
	w.reads(0, 3, "abc", api.OK)
	w.good(w.Close(0))
	w.handles()
	w.good(w.Open(0, "f", api.In), w.Dup(9, 0), w.f.Remove(root, "f"), w.Close(0))
	w.reads(9, 9, "abc", api.OK)
	w.holds(file, 1)
	w.good(w.Put(9, w.text("")))
	w.holds(file, -1)
}

func TestReadAndWrite_P9_2(t *testing.T) {
	w := roomy(t)
	sink, _ := w.table.Sink(4)
	from, to, _ := w.table.Pipe()
	w.good(w.Put(0, w.text("text")), w.Put(1, sink), w.Put(2, from), w.Put(3, to), w.Open(4, "f", api.Both))
	w.reads(0, 0, "", api.OK)
	w.reads(0, 3, "tex", api.OK)
	w.reads(0, 3, "t", api.OK)
	w.reads(0, 3, "", api.OK)
	w.writes(1, "abc", api.OK)
	w.writes(1, "de", api.ErrRoom)
	w.writes(3, "pipe", api.OK)
	w.reads(2, 2, "pi", api.OK)
	w.writes(3, strings.Repeat("x", 999), api.ErrSpill)
	w.reads(2, 9, "pe", api.OK)
	w.reads(4, 1, "a", api.OK)
	w.writes(4, "XYZ", api.OK)
	w.bytes("f", "aXYZ")
	w.writes(4, strings.Repeat("x", 4093), api.ErrBig)
	if s, e := w.table.Seen(sink); s != "abc" || e != api.OK {
		t.Error(s, e)
	}
	w.unchanged("a wrong Read or Write", func() {
		for _, fd := range []int{1, 3} {
			w.reads(fd, 1, "", api.ErrMode)
		}
		for _, fd := range []int{0, 2} {
			w.writes(fd, "a", api.ErrMode)
			w.reads(fd, -1, "", api.ErrArg)
		}
		for _, fd := range append(noFds(), 5, 15) {
			w.reads(fd, 1, "", api.ErrFd)
			w.reads(fd, -1, "", api.ErrFd)
			w.writes(fd, "a", api.ErrFd)
			w.writes(fd, "", api.ErrFd)
		}
	})
}

func TestHandleAndFds_P9_2(t *testing.T) {
	w := roomy(t)
	id := w.text("")
	want := []int{}
	for _, fd := range []int{9, 0, 15, 3, 14, 1} {
		w.good(w.Put(fd, id))
		want = append(want, fd)
		slices.Sort(want)
		got := w.Fds()
		if !slices.Equal(got, want) {
			t.Error(got, want)
		}
		clear(got)
	}
	for fd := -3; fd < 20; fd++ {
		got, open := w.Handle(fd)
		if slices.Contains(want, fd) != open || open != (got == id) || !open && got != 0 {
			t.Error(fd, got, open)
		}
	}
	for _, fd := range noFds() {
		if got, open := w.Handle(fd); got != 0 || open {
			t.Error(fd, got, open)
		}
	}
}

func TestOpen_P9_3(t *testing.T) {
	for _, c := range []struct {
		kind int
		mode handles.Mode
		data string // what f has behind it
	}{
		{api.In, handles.Mode{Read: true}, "abc"},
		{api.Out, handles.Mode{Write: true}, ""},
		{api.More, handles.Mode{Write: true, More: true}, "abc"},
		{api.Both, handles.Mode{Read: true, Write: true}, "abc"},
	} {
		for _, path := range []string{"f", "/f", "../f", "d/../f", "/d/e/../../f", "./f"} {
			for _, fd := range []int{0, 1, 9, 15} {
				w := roomy(t)
				w.good(w.Open(fd, path, c.kind))
				w.opens(fd, 1)
				want := handles.Info{Kind: handles.File, Refs: 1, Node: file, Mode: c.mode}
				if i, e := w.table.Stat(1); i != want || e != api.OK {
					t.Error(i, e, want)
				}
				w.handles(1, 1)
				w.bytes("f", c.data)
				w.holds(file, 1)
				w.good(w.Close(fd))
				w.handles()
				w.holds(file, 0)
			}
		}
	}
}

// A path goes on from where the process stands, and a link at its end is followed.
func TestOpenFrom_P9_3(t *testing.T) {
	w := roomy(t)
	w.good(w.Open(0, "l", api.In))
	w.reads(0, 9, "xyz", api.OK)
	w.good(w.Chdir("d"), w.Open(0, "g", api.In))
	w.reads(0, 9, "xyz", api.OK)
	w.good(w.Open(1, "new", api.Out), w.Write(1, "12"), w.Open(1, "../l", api.More), w.Write(1, "!"))
	w.bytes("d/new", "12")
	w.bytes("d/g", "xyz!")
	w.wants("Open", w.Open(0, "f", api.In), api.ErrNone)
}

func TestOpenMakes_P9_3(t *testing.T) {
	w := roomy(t)
	for i, kind := range []int{api.Out, api.More, api.Both} {
		path := "d/new" + told(i)[1:]
		w.good(w.Open(i, path, kind))
		node, e := w.f.Walk(root, path, false)
		info, _ := w.f.Stat(node)
		if e != api.OK || info != (nodes.Info{Kind: nodes.File, Names: 1, Holds: 1}) {
			t.Error(node, e, info)
		}
		w.writes(i, "abc", api.OK)
		w.bytes(path, "abc")
	}
	w.unchanged("reading makes nothing", func() {
		for _, path := range []string{"none", "d/none", "", "n", "none/x"} {
			w.wants("Open "+path, w.Open(3, path, api.In), api.ErrNone)
		}
	})
}

func TestOpenErrors_P9_3(t *testing.T) {
	w := roomy(t)
	w.f.Make(root, "o", nodes.Link, "o")
	w.good(w.Open(3, "f", api.In))
	type wrong struct {
		path      string
		in, other api.Errno
	}
	w.unchanged("a wrong Open", func() {
		for _, kind := range []int{api.In, api.Out, api.More, api.Both} {
			for _, c := range []wrong{
				{"", api.ErrNone, api.ErrNone}, {"none/x", api.ErrNone, api.ErrNone},
				{"n", api.ErrNone, api.ErrThere}, {"n/", api.ErrNone, api.ErrThere}, {"none/", api.ErrNone, api.ErrNoDir},
				{"f/", api.ErrNoDir, api.ErrNoDir}, {"f/x", api.ErrNoDir, api.ErrNoDir},
				{"o", api.ErrLoop, api.ErrLoop}, {"a\x00", api.ErrName, api.ErrName},
				{strings.Repeat("a/", 200), api.ErrBig, api.ErrBig},
				{"d", api.ErrDir, api.ErrDir}, {"d/", api.ErrDir, api.ErrDir}, {"/", api.ErrDir, api.ErrDir},
				{".", api.ErrDir, api.ErrDir}, {"d/e/..", api.ErrDir, api.ErrDir},
			} {
				want := c.other
				if kind == api.In {
					want = c.in
				}
				for _, fd := range []int{0, 3} {
					w.wants("Open"+told(fd, kind)+" "+c.path, w.Open(fd, c.path, kind), want)
				}
				for _, fd := range noFds() {
					w.wants("Open"+told(fd, kind)+" "+c.path, w.Open(fd, c.path, kind), api.ErrFd)
				}
			}
		}
	})
	w.opens(3, 1)
}

// A kind that is none is named behind the fd, ahead of the path.
func TestOpenKinds_P9_3(t *testing.T) {
	w := roomy(t)
	w.unchanged("a wrong kind", func() {
		for _, kind := range []int{0, -1, api.Dup, api.Here, 7, math.MinInt, math.MaxInt} {
			for _, path := range []string{"f", "new", "", "d"} {
				w.wants("Open"+told(kind), w.Open(0, path, kind), api.ErrArg)
				w.wants("Open"+told(kind), w.Open(16, path, kind), api.ErrFd)
			}
		}
	})
}

// Make's error is Open's, where the file is to be made; its bytes' is Write's.
func TestOpenNoRoom_P9_3(t *testing.T) {
	w := newWorld(t, 10, 2)
	w.good(w.Open(0, "new", api.Out))
	w.writes(0, "abc", api.ErrRoom)
	w.writes(0, "ab", api.OK)
	for i := 0; ; i++ {
		if _, e := w.f.Make(root, "d/"+told(i)[1:], nodes.File, ""); e != api.OK {
			w.wants("Make", e, api.ErrRoom)
			break
		}
	}
	w.unchanged("Open", func() {
		for _, kind := range []int{api.Out, api.More, api.Both} {
			w.wants("Open", w.Open(1, "newer", kind), api.ErrRoom)
		}
	})
	w.good(w.Open(1, "f", api.Out))
}

// The new handle has its number ahead of the end of the old one, so it is another one.
func TestOpenNumbers_P9_3(t *testing.T) {
	w := roomy(t)
	w.good(w.Open(5, "f", api.In))
	w.opens(5, 1)
	w.good(w.Open(5, "f", api.In))
	w.opens(5, 2)
	w.handles(2, 1)
	w.good(w.Open(5, "f", api.In), w.Open(6, "f", api.In))
	w.opens(5, 1, 6, 2)
	w.wants("Open", w.Open(5, "none", api.In), api.ErrNone)
	w.wants("Open", w.Open(7, "d", api.In), api.ErrDir)
	w.good(w.Open(7, "f", api.In))
	w.opens(5, 1, 6, 2, 7, 3)
	// The file that fd was open with is held till then.
	w.good(w.f.Remove(root, "f"), w.Close(6), w.Close(7), w.Open(5, "f", api.Out))
	w.holds(file, -1)
	if i, _ := w.table.Stat(2); i.Node == file {
		t.Error("the new file has the number of the old one, which was alive")
	}
	w.opens(5, 2)
}

// Places: Out begins at 0, More writes at the end each time, and two Opens have two places.
func TestOpenPlaces_P9_3(t *testing.T) {
	w := roomy(t)
	w.good(w.Open(0, "f", api.In), w.Open(1, "f", api.More), w.Open(2, "f", api.Both))
	w.reads(0, 2, "ab", api.OK)
	w.good(w.Write(1, "de"), w.Write(2, "A"), w.Write(1, "f"))
	w.reads(2, 2, "bc", api.OK)
	w.reads(0, 9, "cdef", api.OK)
	w.bytes("f", "Abcdef")
	w.good(w.Open(3, "f", api.Out))
	w.bytes("f", "")
	w.good(w.Write(3, "x"), w.Write(1, "y"), w.Write(3, "z"))
	w.bytes("f", "xz")
	w.reads(1, 1, "", api.ErrMode)
	w.reads(3, 1, "", api.ErrMode)
	w.writes(0, "a", api.ErrMode)
}
