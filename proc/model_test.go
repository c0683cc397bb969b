package proc_test

import (
	"math/rand/v2"
	"strconv"
	"strings"
	"testing"

	"whelk/api"
	"whelk/handles"
	"whelk/nodes"
)

// Parts of a process beside its fds, which are the parts from 0 on.
const (
	dirPart = api.MaxFd + iota
	maskPart
	parts
)

// second is a second reading of the chapter, on a tree and a table of its own: each mark is a process that waits, with a ref or hold for all that it has.
type second struct {
	f          *nodes.FS
	table      *handles.Table
	most, nest int
	now        [parts]int
	waits      []waiting
}

// waiting is a process that waits, and what has changed since first of the one behind it.
type waiting struct {
	has   [parts]int
	noted map[int]int // by parts what they had
}

func (s *second) notes() int {
	n := 0
	for _, w := range s.waits {
		n += len(w.noted)
	}
	return n
}

// take takes, or gives up, a ref or hold of all that a process has.
func (s *second) take(has [parts]int, ref func(int) api.Errno, hold func(int) api.Errno) {
	for _, id := range has[:api.MaxFd] {
		if id != 0 {
			ref(id)
		}
	}
	hold(has[dirPart])
}

func (s *second) mark() (int, api.Errno) {
	if len(s.waits) == s.nest {
		return 0, api.ErrNest
	}
	s.take(s.now, s.table.Ref, s.f.Hold)
	s.waits = append(s.waits, waiting{s.now, map[int]int{}})
	return len(s.waits), api.OK
}

func (s *second) undo() api.Errno {
	last := len(s.waits) - 1
	if last < 0 {
		return api.ErrArg
	}
	s.take(s.now, s.table.Unref, s.f.Drop)
	s.now = s.waits[last].has
	s.waits = s.waits[:last]
	return api.OK
}

// change is whether a part may be set: what it had is noted, if that must be, whatever it gets.
func (s *second) change(part, value int) api.Errno {
	was := s.now[part]
	if last := len(s.waits) - 1; last >= 0 {
		noted := s.waits[last].noted
		if _, is := noted[part]; !is && s.notes() == s.most {
			return api.ErrWrite
		} else if !is {
			noted[part] = was
		}
	}
	s.now[part] = value
	return api.OK
}

func (s *second) put(fd, id int) api.Errno {
	if fd < 0 || fd > 15 {
		return api.ErrFd
	}
	was := s.now[fd]
	if id != 0 {
		if s.table.Ref(id) != api.OK {
			return api.ErrArg
		}
	}
	e := s.change(fd, id)
	if e != api.OK {
		was = id
	}
	if was != 0 {
		s.table.Unref(was)
	}
	return e
}

func (s *second) id(fd int) int {
	if fd < 0 || fd > 15 {
		return 0
	}
	return s.now[fd]
}

func (s *second) dup(fd, from int) api.Errno {
	if fd < 0 || fd > 15 || s.id(from) == 0 {
		return api.ErrFd
	}
	if fd == from {
		return api.OK
	}
	return s.put(fd, s.now[from])
}

func (s *second) open(fd int, path string, kind int) api.Errno {
	m, is := map[int]handles.Mode{
		api.In: {Read: true}, api.Out: {Write: true}, api.More: {Write: true, More: true}, api.Both: {Read: true, Write: true},
	}[kind]
	switch {
	case fd < 0 || fd > 15:
		return api.ErrFd
	case !is:
		return api.ErrArg
	}
	node, e := s.f.Walk(s.now[dirPart], path, true)
	if e == api.ErrNone && kind != api.In {
		node, e = s.f.Make(s.now[dirPart], path, nodes.File, "")
	}
	if e != api.OK {
		return e
	}
	if i, _ := s.f.Stat(node); i.Kind == nodes.Dir {
		return api.ErrDir
	}
	if kind == api.Out {
		s.f.Cut(node, 0)
	}
	id, _ := s.table.File(node, m)
	e = s.put(fd, id)
	s.table.Unref(id)
	return e
}

func (s *second) chdir(path string) api.Errno {
	was := s.now[dirPart]
	node, e := s.f.Walk(was, path, true)
	if e != api.OK {
		return e
	}
	if i, _ := s.f.Stat(node); i.Kind != nodes.Dir {
		return api.ErrNoDir
	}
	if e := s.change(dirPart, node); e != api.OK {
		return e
	}
	s.f.Hold(node)
	s.f.Drop(was)
	return api.OK
}

func (s *second) setMask(mask int) api.Errno {
	if mask < 0 || mask > 511 {
		return api.ErrArg
	}
	return s.change(maskPart, mask)
}

// counts is how often some parts have a value now, or are noted with it.
func (s *second) counts(from, to, value int) int {
	n := 0
	for part := from; part < to; part++ {
		if s.now[part] == value {
			n++
		}
		for _, w := range s.waits {
			if had, is := w.noted[part]; is && had == value {
				n++
			}
		}
	}
	return n
}

// holds is how often a node is to be held: by Files, and as a directory.
func (s *second) holds(node int) int {
	n := s.counts(dirPart, dirPart+1, node)
	for _, id := range s.table.All() {
		if i, _ := s.table.Stat(id); i.Node == node {
			n++
		}
	}
	return n
}

// game is calls made up at random, of a world and of its second reading.
type game struct {
	*rand.Rand
	*world
	second *second
	calls  []string
	met    map[string]int
}

func newGame(t *testing.T, seed uint64, met map[string]int) *game {
	r := rand.New(rand.NewPCG(9, seed))
	most, room := r.IntN(30), r.IntN(60)
	if r.IntN(3) == 0 {
		most = 100
	}
	w, other := newWorld(t, most, room), newWorld(t, most, room)
	s := &second{f: other.f, table: other.table, most: most, nest: 8}
	s.now[dirPart], s.now[maskPart] = root, 18
	g := &game{Rand: r, world: w, second: s, met: met}
	g.call("most notes and room:" + told(most, room))
	return g
}

func (g *game) call(s string) { g.calls = append(g.calls, s) }

func (g *game) same(what, got, want string) {
	g.t.Helper()
	if got != want {
		g.t.Fatalf("%s\n%s: %.300s, not %.300s", strings.Join(g.calls, "\n"), what, got, want)
	}
}

// answer holds the last call's answer against the second reading's.
func (g *game) answer(got, want api.Errno) {
	g.t.Helper()
	g.same("the answer", got.Error(), want.Error())
	name, _, _ := strings.Cut(g.calls[len(g.calls)-1], " ")
	g.met[name+told(int(got))]++
}

// fd is one of few, so that the same one changes often, and at times none.
func (g *game) fd() int {
	if g.IntN(30) == 0 {
		return noFds()[g.IntN(5)]
	}
	return []int{0, 1, 2, 15}[g.IntN(4)]
}

// path is one of those that are there, or may be.
func (g *game) path() string {
	l := []string{"f", "/f", "d", "d/g", "/d/g", "l", "n", "d/e", "/d/e", "e", "..", ".", "/", "", "x", "/x", "d/x", "e/x", "/d/y/", "/d/e/y", "f/", "a\x00"}
	return l[g.IntN(len(l))]
}

// tree makes or takes away nodes beside the process.
func (g *game) tree() {
	path := g.path()
	var got, want api.Errno
	switch g.IntN(4) {
	case 0:
		g.call("Make " + path)
		_, got = g.f.Make(root, path, nodes.Dir, "")
		_, want = g.second.f.Make(root, path, nodes.Dir, "")
	case 1:
		g.call("MakeFile " + path)
		_, got = g.f.Make(root, path, nodes.File, "new")
		_, want = g.second.f.Make(root, path, nodes.File, "new")
	default:
		g.call("Remove " + path)
		got, want = g.f.Remove(root, path), g.second.f.Remove(root, path)
	}
	g.answer(got, want)
}

// fresh puts a Text, or an end of a pipe, that nobody else has.
func (g *game) fresh() {
	fd, other := g.fd(), g.fd()
	if g.IntN(2) == 0 {
		g.call("PutText" + told(fd))
		a, b := g.text("text"), 0
		b, _ = g.second.table.Text("text")
		g.same("the Text", told(a), told(b))
		g.answer(g.Put(fd, a), g.second.put(fd, b))
		g.table.Unref(a)
		g.second.table.Unref(b)
		return
	}
	g.call("PutPipe" + told(fd, other))
	from, to, _ := g.table.Pipe()
	from2, to2, _ := g.second.table.Pipe()
	g.same("the pipe", told(from, to), told(from2, to2))
	g.answer(g.Put(fd, from), g.second.put(fd, from2))
	g.answer(g.Put(other, to), g.second.put(other, to2))
	for _, id := range []int{from, to} {
		g.table.Unref(id)
		g.second.table.Unref(id)
	}
}

// move reads or writes.
func (g *game) move() {
	fd := g.fd()
	id := g.second.id(fd)
	if g.IntN(2) == 0 {
		data := strconv.Itoa(g.IntN(10000))
		g.call("Write" + told(fd) + " " + data)
		g.answer(g.Write(fd, data), g.second.table.Write(id, data))
		return
	}
	n := g.IntN(6) - 1
	g.call("Read" + told(fd, n))
	got, e := g.Read(fd, n)
	want, wrong := g.second.table.Read(id, n)
	g.same("what is read", got, want)
	g.answer(e, wrong)
}

// step makes up a call, and does it of both.
func (g *game) step() {
	switch kind := g.IntN(40); {
	case kind < 3:
		g.tree()
	case kind < 6:
		g.fresh()
	case kind < 13:
		g.move()
	case kind < 18:
		fd, path, how := g.fd(), g.path(), g.IntN(5)+1
		g.call("Open" + told(fd, how) + " " + path)
		g.answer(g.Open(fd, path, how), g.second.open(fd, path, how))
	case kind < 21:
		fd, id := g.fd(), 1+g.IntN(6)
		g.call("Put" + told(fd, id))
		g.answer(g.Put(fd, id), g.second.put(fd, id))
	case kind < 24:
		fd, from := g.fd(), g.fd()
		g.call("Dup" + told(fd, from))
		g.answer(g.Dup(fd, from), g.second.dup(fd, from))
	case kind < 28:
		fd := g.fd()
		g.call("Close" + told(fd))
		g.answer(g.Close(fd), g.second.put(fd, 0))
	case kind < 31:
		path := g.path()
		g.call("Chdir " + path)
		g.answer(g.Chdir(path), g.second.chdir(path))
	case kind < 33:
		mask := g.IntN(6) + 506*g.IntN(2)*g.IntN(2) + g.IntN(2) - 1
		g.call("SetMask" + told(mask))
		g.answer(g.SetMask(mask), g.second.setMask(mask))
	case kind < 37:
		g.call("Mark")
		got, e := g.Mark()
		want, wrong := g.second.mark()
		g.same("the mark", told(got), told(want))
		g.answer(e, wrong)
	default:
		g.call("Undo")
		g.answer(g.Undo(), g.second.undo())
	}
}

// whole is whether both tell the same of all there is; refs, holds and notes are counted anew.
func (g *game) whole() {
	g.t.Helper()
	var fds []int
	for fd := -1; fd <= 16; fd++ {
		id, open := g.Handle(fd)
		g.same("Handle"+told(fd), told(id), told(g.second.id(fd)))
		g.same("open"+told(fd), strconv.FormatBool(open), strconv.FormatBool(id != 0))
		if id != 0 {
			fds = append(fds, fd)
		}
	}
	g.same("Fds", told(g.Fds()...), told(fds...))
	g.same("Dir, Mask", told(g.Dir(), g.Mask()), told(g.second.now[dirPart:]...))
	g.same("marks and notes", told(g.log.Marks(), g.log.Len()), told(len(g.second.waits), g.second.notes()))
	g.same("Show", g.f.Show(), g.second.f.Show())
	for node := range 40 {
		got, e := g.f.Stat(node)
		want, wrong := g.second.f.Stat(node)
		if e == api.OK {
			want.Holds = g.second.holds(node)
		}
		g.same("node"+told(node), told(got.Kind, got.Size, got.Names, got.Holds, int(e)), told(want.Kind, want.Size, want.Names, want.Holds, int(wrong)))
	}
	g.same("All", told(g.table.All()...), told(g.second.table.All()...))
	for _, id := range g.table.All() {
		got, _ := g.table.Stat(id)
		want, _ := g.second.table.Stat(id)
		want.Refs = g.second.counts(0, api.MaxFd, id)
		if got != want {
			g.same("handle"+told(id), told(got.Kind, got.Refs, got.At, got.Node), told(want.Kind, want.Refs, want.At, want.Node))
			g.same("handle"+told(id), "another Mode", "")
		}
	}
}

// Whatever is called one behind the other, a process answers and has what one does whose marks are copies that wait; behind the last Undo refs and holds are those of the fds and the directory alone.
func TestAsByCopies_P9_6(t *testing.T) {
	met := map[string]int{}
	for seed := range uint64(600) {
		g := newGame(t, seed, met)
		for range 150 {
			g.step()
			g.whole()
		}
		for len(g.second.waits) > 0 {
			g.call("Undo")
			g.answer(g.Undo(), g.second.undo())
			g.whole()
		}
		g.notes(0)
	}
	for name, l := range map[string][]api.Errno{
		"Open":    {api.OK, api.ErrFd, api.ErrArg, api.ErrNone, api.ErrThere, api.ErrNoDir, api.ErrDir, api.ErrName, api.ErrWrite},
		"Put":     {api.OK, api.ErrFd, api.ErrArg, api.ErrWrite},
		"PutText": {api.OK, api.ErrFd, api.ErrWrite},
		"PutPipe": {api.OK, api.ErrFd, api.ErrWrite},
		"Dup":     {api.OK, api.ErrFd, api.ErrWrite},
		"Close":   {api.OK, api.ErrFd, api.ErrWrite},
		"Read":    {api.OK, api.ErrFd, api.ErrMode, api.ErrArg},
		"Write":   {api.OK, api.ErrFd, api.ErrMode, api.ErrRoom},
		"Chdir":   {api.OK, api.ErrNone, api.ErrNoDir, api.ErrName, api.ErrWrite},
		"SetMask": {api.OK, api.ErrArg, api.ErrWrite},
		"Mark":    {api.OK, api.ErrNest},
		"Undo":    {api.OK, api.ErrArg},
	} {
		for _, e := range l {
			if met[name+told(int(e))] < 20 {
				t.Errorf("%s answered %v %d times", name, e, met[name+told(int(e))])
			}
		}
	}
}

// When all marks are undone and all is closed, no handle is there, and the root alone is held.
func TestAllGone_P9_6(t *testing.T) {
	for seed := range uint64(300) {
		g := newGame(t, seed+10000, map[string]int{})
		for range 150 {
			g.step()
		}
		for g.log.Marks() > 0 {
			g.good(g.Undo())
		}
		for fd := range api.MaxFd {
			g.good(g.Close(fd))
		}
		g.good(g.Chdir("/"))
		g.handles()
		g.holds(root, 1)
		for node := root + 1; node < 40; node++ {
			if i, _ := g.f.Stat(node); i.Holds != 0 {
				t.Error(seed, node, i.Holds)
			}
		}
	}
}
