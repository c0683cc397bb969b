package proc_test

import (
	"math"
	"slices"
	"strconv"
	"strings"
	"testing"

	"whelk/api"
	"whelk/handles"
	"whelk/nodes"
	"whelk/proc"
	"whelk/spill"
	"whelk/undo"
)

// Nodes of every world.
const (
	root  = iota + 1
	dir   // d
	file  // f: abc
	inner // d/g: xyz
	link  // l, to d/g
	loose // n, to nothing
	inDir // d/e, a directory
)

// world is a process, and what it stands on.
type world struct {
	*proc.Proc
	t     *testing.T
	f     *nodes.FS
	table *handles.Table
	log   *undo.Log
}

// newWorld has the nodes above, a log of at most so many notes, and room for so many bytes more.
func newWorld(t *testing.T, most, room int) *world {
	t.Helper()
	f, e := nodes.New(1024, room+len("abcxyzd/gnothing"))
	if e != api.OK {
		t.Fatal(e)
	}
	for i, n := range []struct {
		path string
		kind int
		text string
	}{
		{"d", nodes.Dir, ""}, {"f", nodes.File, "abc"}, {"d/g", nodes.File, "xyz"},
		{"l", nodes.Link, "d/g"}, {"n", nodes.Link, "nothing"}, {"d/e", nodes.Dir, ""},
	} {
		if node, e := f.Make(root, n.path, n.kind, n.text); node != dir+i || e != api.OK {
			t.Fatal(n.path, node, e)
		}
	}
	pool, _ := spill.New(1000, 2, 3)
	table, _ := handles.New(f, pool)
	log, _ := undo.New(most, 8)
	p, e := proc.New(f, table, log)
	if p == nil || e != api.OK {
		t.Fatal("New", p, e)
	}
	return &world{p, t, f, table, log}
}

// roomy is such a world with room for all that tests want.
func roomy(t *testing.T) *world {
	t.Helper()
	return newWorld(t, 1000, 10000)
}

func (w *world) wants(what string, got, want api.Errno) {
	w.t.Helper()
	if got != want {
		w.t.Errorf("%s: %v, not %v", what, got, want)
	}
}

// good wants that all calls were good.
func (w *world) good(l ...api.Errno) {
	w.t.Helper()
	for i, e := range l {
		w.wants("call"+told(i), e, api.OK)
	}
}

// marks opens a mark, which is the nth.
func (w *world) marks(nth int) {
	w.t.Helper()
	if n, e := w.Mark(); n != nth || e != api.OK {
		w.t.Errorf("Mark: %d, %v; not %d", n, e, nth)
	}
}

// notes wants so many notes.
func (w *world) notes(want int) {
	w.t.Helper()
	if got := w.log.Len(); got != want {
		w.t.Errorf("%d notes, not %d", got, want)
	}
}

// text is the number of a new Text.
func (w *world) text(s string) int {
	w.t.Helper()
	id, e := w.table.Text(s)
	w.wants("Text", e, api.OK)
	return id
}

// opens wants the open fds: pairs of an fd and its handle.
func (w *world) opens(pairs ...int) {
	w.t.Helper()
	var fds []int
	for i := 0; i < len(pairs); i += 2 {
		fds = append(fds, pairs[i])
		if id, open := w.Handle(pairs[i]); id != pairs[i+1] || !open {
			w.t.Errorf("fd %d is %d, %v; not %d", pairs[i], id, open, pairs[i+1])
		}
	}
	if got := w.Fds(); !slices.Equal(got, fds) {
		w.t.Errorf("Fds%s, not%s", told(got...), told(fds...))
	}
}

// handles wants the handles that there are: pairs of a number and its refs.
func (w *world) handles(pairs ...int) {
	w.t.Helper()
	var got []int
	for _, id := range w.table.All() {
		i, _ := w.table.Stat(id)
		got = append(got, id, i.Refs)
	}
	if !slices.Equal(got, pairs) {
		w.t.Errorf("handles and refs%s, not%s", told(got...), told(pairs...))
	}
}

// holds wants how often a node is held; -1 is that it is gone.
func (w *world) holds(node, want int) {
	w.t.Helper()
	i, e := w.f.Stat(node)
	if e != api.OK {
		i.Holds = -1
	}
	if i.Holds != want {
		w.t.Errorf("node %d is held %d times, not %d", node, i.Holds, want)
	}
}

// bytes wants what stands in a file.
func (w *world) bytes(path, want string) {
	w.t.Helper()
	node, _ := w.f.Walk(root, path, true)
	if got, e := w.f.Read(node, 0, math.MaxInt); got != want || e != api.OK {
		w.t.Errorf("%s has %.80q, %v; not %.80q", path, got, e, want)
	}
}

func (w *world) reads(fd, n int, want string, wrong api.Errno) {
	w.t.Helper()
	if got, e := w.Read(fd, n); got != want || e != wrong {
		w.t.Errorf("Read%s: %.80q, %v; not %.80q, %v", told(fd, n), got, e, want, wrong)
	}
}

func (w *world) writes(fd int, data string, wrong api.Errno) {
	w.t.Helper()
	w.wants("Write"+told(fd)+" "+strconv.Itoa(len(data))+" bytes", w.Write(fd, data), wrong)
}

// stands wants the directory and the mask.
func (w *world) stands(dir, mask int) {
	w.t.Helper()
	if w.Dir() != dir || w.Mask() != mask {
		w.t.Errorf("it stands in%s, not%s", told(w.Dir(), w.Mask()), told(dir, mask))
	}
}

// unchanged does what must not change anything.
func (w *world) unchanged(what string, do func()) {
	w.t.Helper()
	was := w.everything()
	do()
	if is := w.everything(); is != was {
		w.t.Errorf("%s: it was\n%s\nit is\n%s", what, was, is)
	}
}

// everything is all that is told of a process, and of what it stands on.
func (w *world) everything() string {
	out := w.f.Show() + "stands" + told(w.Dir(), w.Mask()) + " log" + told(w.log.Marks(), w.log.Len()) + " open"
	for fd := range api.MaxFd {
		id, _ := w.Handle(fd)
		out += told(id)
	}
	for node := range 24 {
		if i, e := w.f.Stat(node); e == api.OK {
			out += "\nnode" + told(node, i.Kind, i.Size, i.Names, i.Holds)
		}
	}
	for _, id := range w.table.All() {
		i, _ := w.table.Stat(id)
		out += "\nhandle" + told(id, i.Kind, i.Refs, i.At, i.Node)
	}
	return out
}

// told is numbers, a blank ahead of each.
func told(l ...int) string {
	var out strings.Builder
	for _, n := range l {
		out.WriteString(" " + strconv.Itoa(n))
	}
	return out.String()
}

// noFds are numbers that are no fds.
func noFds() []int { return []int{-1, 16, 17, math.MinInt, math.MaxInt} }

func TestNew_P9_1(t *testing.T) {
	w := roomy(t)
	w.opens()
	w.stands(root, 18)
	w.handles()
	w.holds(root, 1)
	w.notes(0)
	for fd := range api.MaxFd {
		if id, open := w.Handle(fd); id != 0 || open {
			t.Error(fd, id, open)
		}
	}
	// One process knows nothing of another on the same things; both stand in the root.
	w.good(w.Open(3, "f", api.In), w.Chdir("d"), w.SetMask(7))
	other, e := proc.New(w.f, w.table, w.log)
	if e != api.OK || other.Dir() != root || other.Mask() != 18 || len(other.Fds()) != 0 {
		t.Error(e, other.Dir(), other.Mask(), other.Fds())
	}
	w.holds(root, 1)
	w.good(other.SetMask(1), other.Chdir("d"))
	w.wants("Dup", other.Dup(3, 3), api.ErrFd)
	w.stands(dir, 7)
	w.opens(3, 1)
	w.holds(dir, 2)
}

func TestNewOfNil_P9_1(t *testing.T) {
	w := roomy(t)
	w.unchanged("New of nil", func() {
		for n := range 7 {
			f, table, log := w.f, w.table, w.log
			if n&1 == 0 {
				f = nil
			}
			if n&2 == 0 {
				table = nil
			}
			if n&4 == 0 {
				log = nil
			}
			if p, e := proc.New(f, table, log); p != nil || e != api.ErrNil {
				t.Error(n, p, e)
			}
		}
	})
}

func TestNil_P9_1(t *testing.T) {
	var none *proc.Proc
	for _, p := range []*proc.Proc{none, {}} {
		w := &world{Proc: p, t: t}
		for _, fd := range append(noFds(), 0, 1, 15) {
			for _, kind := range []int{0, api.In, api.Out, api.Here} {
				w.wants("Open", p.Open(fd, "f", kind), api.ErrNil)
			}
			w.wants("Put", p.Put(fd, 1), api.ErrNil)
			w.wants("Dup", p.Dup(fd, fd), api.ErrNil)
			w.wants("Close", p.Close(fd), api.ErrNil)
			w.reads(fd, -1, "", api.ErrNil)
			w.writes(fd, "a", api.ErrNil)
			if id, open := p.Handle(fd); id != 0 || open {
				t.Error("Handle", id, open)
			}
		}
		w.wants("Chdir", p.Chdir("/"), api.ErrNil)
		w.wants("SetMask", p.SetMask(-1), api.ErrNil)
		w.wants("Undo", p.Undo(), api.ErrNil)
		if n, e := p.Mark(); n != 0 || e != api.ErrNil {
			t.Error("Mark", n, e)
		}
		w.opens()
		w.stands(0, 0)
	}
}

func TestChdir_P9_4(t *testing.T) {
	w := roomy(t)
	w.good(w.Chdir("d"))
	w.stands(dir, 18)
	w.holds(root, 0)
	w.holds(dir, 1)
	w.good(w.Chdir("./e/"))
	w.stands(inDir, 18)
	w.holds(dir, 0)
	w.good(w.Chdir(".."))
	w.stands(dir, 18)
	w.good(w.Chdir("."), w.Chdir("../d"), w.Chdir("/d"))
	w.stands(dir, 18)
	w.holds(dir, 1)
	w.good(w.Chdir("/"))
	w.stands(root, 18)
	w.holds(root, 1)
	w.holds(dir, 0)
	// Of a link it is what the link comes to.
	w.f.Make(root, "to", nodes.Link, "d/e")
	w.good(w.Chdir("to"))
	w.stands(inDir, 18)
	w.good(w.Chdir("/to/.."))
	w.stands(dir, 18)
}

func TestChdirErrors_P9_4(t *testing.T) {
	w := roomy(t)
	w.f.Make(root, "o", nodes.Link, "o")
	w.good(w.Chdir("d"))
	w.unchanged("a wrong Chdir", func() {
		for _, c := range []struct {
			path string
			e    api.Errno
		}{
			{"", api.ErrNone}, {"d", api.ErrNone}, {"/none", api.ErrNone}, {"none/x", api.ErrNone}, {"/n", api.ErrNone},
			{"g", api.ErrNoDir}, {"/f", api.ErrNoDir}, {"/l", api.ErrNoDir}, {"g/", api.ErrNoDir}, {"/f/x", api.ErrNoDir},
			{"a\x00", api.ErrName}, {strings.Repeat("x", 33), api.ErrName},
			{strings.Repeat("/", 257), api.ErrBig}, {"/o", api.ErrLoop},
		} {
			w.wants("Chdir "+c.path, w.Chdir(c.path), c.e)
		}
	})
}

// A directory that a process stands in lives on without a name, and is gone when it is left.
func TestDirIsHeld_P9_4(t *testing.T) {
	w := roomy(t)
	w.good(w.Chdir("d/e"), w.f.Remove(root, "d/e"))
	w.stands(inDir, 18)
	w.holds(inDir, 1)
	w.good(w.Chdir("."))
	w.unchanged("without a name", func() {
		w.wants("Chdir ..", w.Chdir(".."), api.ErrNone)
		w.wants("Open", w.Open(0, "new", api.Out), api.ErrNone)
		w.wants("Open ..", w.Open(0, "../f", api.In), api.ErrNone)
	})
	w.good(w.Open(0, "/f", api.In), w.Chdir("/d"))
	w.holds(inDir, -1)
}

func TestMask_P9_4(t *testing.T) {
	w := roomy(t)
	for _, mask := range []int{0, 1, 18, 63, 510, 511, 511, 0} {
		w.good(w.SetMask(mask))
		w.stands(root, mask)
	}
	w.good(w.SetMask(77))
	w.unchanged("a wrong mask", func() {
		for _, mask := range []int{-1, 512, 513, 1023, math.MinInt, math.MaxInt} {
			w.wants("SetMask"+told(mask), w.SetMask(mask), api.ErrArg)
		}
	})
}

func TestExample_P9(t *testing.T) {
	w := roomy(t)
	w.good(w.Open(1, "f", api.Out))
	w.marks(1)
	w.good(w.Write(1, "ab"), w.Close(1), w.Open(1, "g", api.Out), w.Undo(), w.Write(1, "c"))
	w.bytes("f", "abc")
	w.bytes("g", "")
	w.opens(1, 1)
	w.handles(1, 1)
}

// R3: a process hangs on its calls alone, not on those of another world.
func TestWorldsApart_R3(t *testing.T) {
	a, b := roomy(t), roomy(t)
	a.good(a.Open(1, "f", api.Out), a.Chdir("d"), a.SetMask(1))
	a.marks(1)
	a.good(a.Close(1))
	b.opens()
	b.stands(root, 18)
	b.bytes("f", "abc")
	b.notes(0)
	b.wants("Undo", b.Undo(), api.ErrArg)
	a.good(a.Undo())
	a.opens(1, 1)
}
