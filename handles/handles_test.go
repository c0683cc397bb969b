package handles_test

import (
	"math"
	"slices"
	"strconv"
	"strings"
	"testing"

	"whelk/api"
	"whelk/handles"
	"whelk/nodes"
	"whelk/spill"
)

const root = 1

var (
	reading = handles.Mode{Read: true}
	writing = handles.Mode{Write: true}
	both    = handles.Mode{Read: true, Write: true}
	more    = handles.Mode{Write: true, More: true}
)

// world is a table, and what it stands on.
type world struct {
	*handles.Table
	t *testing.T
	f *nodes.FS
	p *spill.Pool
}

// newWorld has the directory 2 (d), the link 3 (l), and files of these bytes from 4 on (f4, f5 ..).
func newWorld(t *testing.T, room, quota int, files ...string) *world {
	t.Helper()
	f, e := nodes.New(1024, room)
	if e != api.OK {
		t.Fatal(e)
	}
	f.Make(root, "d", nodes.Dir, "")
	f.Make(root, "l", nodes.Link, "f4")
	for i, s := range files {
		if n, e := f.Make(root, "f"+strconv.Itoa(i+4), nodes.File, s); n != i+4 || e != api.OK {
			t.Fatal("Make", n, e)
		}
	}
	p, e := spill.New(quota, 2, 3)
	if e != api.OK {
		t.Fatal(e)
	}
	h, e := handles.New(f, p)
	if h == nil || e != api.OK {
		t.Fatal("New", h, e)
	}
	return &world{h, t, f, p}
}

// roomy is such a world with room for all that tests want.
func roomy(t *testing.T, files ...string) *world {
	t.Helper()
	return newWorld(t, 100000, 1048576, files...)
}

func (w *world) wants(what string, got, want api.Errno) {
	w.t.Helper()
	if got != want {
		w.t.Errorf("%s: %v, not %v", what, got, want)
	}
}

func (w *world) wantsID(what string, got int, e api.Errno, id int, want api.Errno) {
	w.t.Helper()
	if got != id || e != want {
		w.t.Errorf("%s: %d, %v; not %d, %v", what, got, e, id, want)
	}
}

// file opens a node, text bytes, sink a sink, pipe a pipe: each wants the number that it gets.
func (w *world) file(node int, m handles.Mode, id int) {
	w.t.Helper()
	got, e := w.File(node, m)
	w.wantsID("File "+told(node), got, e, id, api.OK)
}

func (w *world) text(s string, id int) {
	w.t.Helper()
	got, e := w.Text(s)
	w.wantsID("Text", got, e, id, api.OK)
}

func (w *world) sink(most, id int) {
	w.t.Helper()
	got, e := w.Sink(most)
	w.wantsID("Sink "+told(most), got, e, id, api.OK)
}

func (w *world) pipe(from, to int) {
	w.t.Helper()
	gotFrom, gotTo, e := w.Pipe()
	if gotFrom != from || gotTo != to || e != api.OK {
		w.t.Errorf("Pipe: %d, %d, %v; not %d, %d", gotFrom, gotTo, e, from, to)
	}
}

func (w *world) reads(id, n int, want string, wrong api.Errno) {
	w.t.Helper()
	if got, e := w.Read(id, n); got != want || e != wrong {
		w.t.Errorf("Read%s: %.80q, %v; not %.80q, %v", told(id, n), got, e, want, wrong)
	}
}

func (w *world) writes(id int, data string, wrong api.Errno) {
	w.t.Helper()
	w.wants("Write"+told(id)+" "+strconv.Itoa(len(data))+" bytes", w.Write(id, data), wrong)
}

func (w *world) sees(id int, want string, wrong api.Errno) {
	w.t.Helper()
	if got, e := w.Seen(id); got != want || e != wrong {
		w.t.Errorf("Seen%s: %.80q, %v; not %.80q, %v", told(id), got, e, want, wrong)
	}
}

func (w *world) unrefs(l ...int) {
	w.t.Helper()
	for _, id := range l {
		w.wants("Unref"+told(id), w.Unref(id), api.OK)
	}
}

func (w *world) stats(id int, want handles.Info) {
	w.t.Helper()
	if got, e := w.Stat(id); got != want || e != api.OK {
		w.t.Errorf("Stat%s: %+v, %v; not %+v", told(id), got, e, want)
	}
}

// at wants just the place that Stat tells.
func (w *world) at(id, want int) {
	w.t.Helper()
	if got, e := w.Stat(id); got.At != want || e != api.OK {
		w.t.Errorf("Stat%s: its place is %d, %v; not %d", told(id), got.At, e, want)
	}
}

func (w *world) all(want ...int) {
	w.t.Helper()
	if got := w.All(); !slices.Equal(got, want) {
		w.t.Errorf("All:%s, not%s", told(got...), told(want...))
	}
}

// bytes wants what stands in a node.
func (w *world) bytes(node int, want string) {
	w.t.Helper()
	if got, e := w.f.Read(node, 0, math.MaxInt); got != want || e != api.OK {
		w.t.Errorf("node %d has %.80q, %v; not %.80q", node, got, e, want)
	}
}

// holds wants how often a node is held.
func (w *world) holds(node, want int) {
	w.t.Helper()
	if got, e := w.f.Stat(node); got.Holds != want || e != api.OK {
		w.t.Errorf("node %d is held %d times, %v; not %d", node, got.Holds, e, want)
	}
}

func (w *world) buffers(want int) {
	w.t.Helper()
	if got := w.p.Buffers(); got != want {
		w.t.Errorf("%d buffers are open, not %d", got, want)
	}
}

// unchanged does what must not change anything.
func (w *world) unchanged(what string, do func()) {
	w.t.Helper()
	was := w.everything()
	do()
	if is := w.everything(); is != was {
		w.t.Errorf("%s: it was\n%s\nit is\n%s", what, was, is)
	}
}

// everything is all that is told of handles, and of what they stand on.
func (w *world) everything() string {
	out := w.f.Show() + told(w.p.Held(), w.p.Chunks(), w.p.Buffers()) + " all" + told(w.All()...)
	for node := range 12 {
		i, e := w.f.Stat(node)
		out += "\nnode" + told(node, i.Kind, i.Size, i.Names, i.Holds, int(e))
	}
	for id := range len(w.All()) + 5 {
		i, e := w.Stat(id)
		s, wrong := w.Seen(id)
		out += "\nhandle" + told(id, i.Kind, i.Refs, i.At, i.Node, int(e)) + mode(i.Mode) + strconv.Quote(s) + told(int(wrong))
	}
	return out
}

// mode is one as a text.
func mode(m handles.Mode) string {
	out := " "
	for i, on := range []bool{m.Read, m.Write, m.More} {
		if on {
			out += "rwm"[i : i+1]
		}
	}
	return out + " "
}

func told(l ...int) string {
	out := ""
	for _, n := range l {
		out += " " + strconv.Itoa(n)
	}
	return out
}

func TestKinds_P7_1(t *testing.T) {
	if handles.File != 1 || handles.Text != 2 || handles.Sink != 3 || handles.Reader != 4 || handles.Writer != 5 {
		t.Error(handles.File, handles.Text, handles.Sink, handles.Reader, handles.Writer)
	}
}

func TestNew_P7_1(t *testing.T) {
	w := roomy(t, "xyz")
	w.all()
	w.holds(4, 0)
	w.buffers(0)
	for _, c := range []struct {
		f *nodes.FS
		p *spill.Pool
	}{{nil, nil}, {w.f, nil}, {nil, w.p}} {
		if h, e := handles.New(c.f, c.p); h != nil || e != api.ErrNil {
			t.Error(c, h, e)
		}
	}
}

func TestFile_P7_1(t *testing.T) {
	w := roomy(t, "xyz", "")
	for i, m := range []handles.Mode{reading, writing, both, more, {Read: true, More: true}, {Read: true, Write: true, More: true}} {
		w.file(4, m, i+1)
		w.stats(i+1, handles.Info{Kind: handles.File, Refs: 1, Node: 4, Mode: m})
		w.holds(4, i+1)
	}
	w.file(5, reading, 7)
	w.stats(7, handles.Info{Kind: handles.File, Refs: 1, Node: 5, Mode: reading})
	w.holds(5, 1)
	w.bytes(4, "xyz")
	w.all(1, 2, 3, 4, 5, 6, 7)
}

// Each error is there alone, and ahead of those that are named behind it.
func TestFileErrors_P7_1(t *testing.T) {
	w := roomy(t, "xyz")
	w.text("a", 1)
	none, justMore := handles.Mode{}, handles.Mode{More: true}
	for _, c := range []struct {
		node  int
		m     handles.Mode
		wrong api.Errno
	}{
		{5, reading, api.ErrNone}, {0, both, api.ErrNone}, {-1, both, api.ErrNone}, {math.MaxInt, writing, api.ErrNone}, {math.MinInt, reading, api.ErrNone}, {5, none, api.ErrNone},
		{1, reading, api.ErrDir}, {2, reading, api.ErrDir}, {2, writing, api.ErrDir}, {2, none, api.ErrDir},
		{3, reading, api.ErrArg}, {3, both, api.ErrArg}, {3, none, api.ErrArg},
		{4, none, api.ErrArg}, {4, justMore, api.ErrArg},
	} {
		w.unchanged("File"+told(c.node)+mode(c.m), func() {
			id, e := w.File(c.node, c.m)
			w.wantsID("File"+told(c.node)+mode(c.m), id, e, 0, c.wrong)
		})
	}
	w.file(4, reading, 2)
}

// A node without a name is a node, as long as something holds it.
func TestFileWithoutName_P7_1(t *testing.T) {
	w := roomy(t, "xyz")
	w.file(4, reading, 1)
	w.wants("Remove", w.f.Remove(root, "f4"), api.OK)
	w.file(4, both, 2)
	w.unrefs(1)
	w.reads(2, 9, "xyz", api.OK)
	w.unrefs(2)
	id, e := w.File(4, reading)
	w.wantsID("File of what is gone", id, e, 0, api.ErrNone)
}

func TestText_P7_1(t *testing.T) {
	w := roomy(t)
	long := strings.Repeat("x", 1048576)
	for i, s := range []string{"", "abc", "\x00\xff\n", long} {
		w.text(s, i+1)
		w.stats(i+1, handles.Info{Kind: handles.Text, Refs: 1})
	}
	for _, s := range []string{long + "y", long + long} {
		w.unchanged("a text too long", func() {
			id, e := w.Text(s)
			w.wantsID("Text", id, e, 0, api.ErrBig)
		})
	}
	w.reads(4, math.MaxInt, long, api.OK)
}

func TestSink_P7_1(t *testing.T) {
	w := roomy(t)
	for i, most := range []int{0, 1, 100, 1048576} {
		w.sink(most, i+1)
		w.stats(i+1, handles.Info{Kind: handles.Sink, Refs: 1})
		w.sees(i+1, "", api.OK)
	}
	for _, most := range []int{-1, 1048577, math.MinInt, math.MaxInt} {
		w.unchanged("a sink of"+told(most), func() {
			id, e := w.Sink(most)
			w.wantsID("Sink", id, e, 0, api.ErrArg)
		})
	}
}

func TestPipe_P7_1(t *testing.T) {
	w := roomy(t)
	w.pipe(1, 2)
	w.stats(1, handles.Info{Kind: handles.Reader, Refs: 1})
	w.stats(2, handles.Info{Kind: handles.Writer, Refs: 1})
	w.buffers(1)
	w.pipe(3, 4)
	w.buffers(2)
	// Each end has the least number of its own, the reader first.
	w.unrefs(1)
	w.pipe(1, 5)
	w.unrefs(3, 2)
	w.pipe(2, 3)
	w.all(1, 2, 3, 4, 5)
	w.stats(2, handles.Info{Kind: handles.Reader, Refs: 1})
	w.stats(3, handles.Info{Kind: handles.Writer, Refs: 1})
	w.buffers(3)
}

// Of a nil table, and of one that New did not make, all calls answer ErrNil, or nothing.
func TestNil_P7_1(t *testing.T) {
	for _, h := range []*handles.Table{nil, {}} {
		w := &world{h, t, nil, nil}
		for _, n := range []int{0, 1, 4, -1, math.MaxInt, math.MinInt} {
			id, e := w.File(n, both)
			w.wantsID("File", id, e, 0, api.ErrNil)
			id, e = w.Sink(n)
			w.wantsID("Sink", id, e, 0, api.ErrNil)
			w.wants("Ref", w.Ref(n), api.ErrNil)
			w.wants("Unref", w.Unref(n), api.ErrNil)
			w.reads(n, n, "", api.ErrNil)
			w.writes(n, "ab", api.ErrNil)
			w.sees(n, "", api.ErrNil)
			if i, e := w.Stat(n); i != (handles.Info{}) || e != api.ErrNil {
				t.Error("Stat", i, e)
			}
		}
		for _, s := range []string{"", "ab", strings.Repeat("x", 1048577)} {
			id, e := w.Text(s)
			w.wantsID("Text", id, e, 0, api.ErrNil)
		}
		if from, to, e := w.Pipe(); from != 0 || to != 0 || e != api.ErrNil {
			t.Error("Pipe", from, to, e)
		}
		w.all()
	}
}

// A tree and a pool that New did not make have no nodes, and no quota: nothing panics.
func TestNotMade_R1(t *testing.T) {
	f, p := &nodes.FS{}, &spill.Pool{}
	h, e := handles.New(f, p)
	if h == nil || e != api.OK {
		t.Fatal(h, e)
	}
	w := &world{h, t, f, p}
	id, e := w.File(1, both)
	w.wantsID("File", id, e, 0, api.ErrNone)
	w.pipe(1, 2)
	w.writes(2, "", api.OK)
	w.writes(2, "a", api.ErrSpill)
	w.reads(1, 9, "", api.OK)
	w.unrefs(1, 2)
	w.all()
}

func TestExamples_P7(t *testing.T) {
	w := roomy(t)
	w.wants("Remove", w.f.Remove(root, "d"), api.OK)
	if n, e := w.f.Make(root, "f", nodes.File, "xyz"); n != 2 || e != api.OK {
		t.Fatal(n, e)
	}
	w.file(2, reading, 1)
	w.wants("Ref", w.Ref(1), api.OK)
	w.reads(1, 2, "xy", api.OK)
	w.unrefs(1)
	w.stats(1, handles.Info{Kind: handles.File, Refs: 1, At: 2, Node: 2, Mode: reading})
	w.reads(1, 9, "z", api.OK)
	w.pipe(2, 3)
	w.writes(3, "ab", api.OK)
	w.reads(2, 1, "a", api.OK)
	w.unrefs(3, 2)
	w.buffers(0)
	w.unrefs(1)
	w.holds(2, 0)
	w.all()
}
