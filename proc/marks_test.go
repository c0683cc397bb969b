package proc_test

import (
	"testing"

	"whelk/api"
	"whelk/handles"
	"whelk/proc"
	"whelk/undo"
)

func TestMarkAndUndo_P9_5(t *testing.T) {
	w := roomy(t)
	w.wants("Undo", w.Undo(), api.ErrArg)
	for n := 1; n <= 8; n++ {
		w.marks(n)
	}
	if n, e := w.Mark(); n != 0 || e != api.ErrNest {
		t.Error(n, e)
	}
	if w.log.Marks() != 8 {
		t.Error(w.log.Marks())
	}
	for range 8 {
		w.good(w.Undo())
	}
	w.wants("Undo", w.Undo(), api.ErrArg)
	// The marks are the log's, whoever opens and undoes them.
	w.log.Mark()
	w.good(w.SetMask(1))
	w.marks(2)
	w.good(w.SetMask(2), w.log.Undo())
	w.stands(root, 1)
	w.good(w.Undo())
	w.stands(root, 18)
}

func TestGoesBack_P9_5(t *testing.T) {
	w := roomy(t)
	a, b := w.text("aaa"), w.text("bbb")
	w.good(w.Put(0, a), w.Put(1, b), w.Put(15, a), w.Chdir("d"), w.SetMask(1))
	first := w.everything()
	w.marks(1)
	w.good(w.Put(0, b), w.Close(1), w.Dup(2, 0), w.Open(15, "/f", api.In), w.Chdir("e"), w.SetMask(2))
	w.opens(0, b, 2, b, 15, 3)
	w.stands(inDir, 2)
	second := w.everything()
	w.marks(2)
	w.good(w.Close(0), w.Put(1, a), w.Dup(15, 1), w.Close(2), w.Open(7, "../g", api.In), w.Chdir("/"), w.SetMask(3))
	w.good(w.Close(7), w.Open(7, "f", api.In), w.Chdir("d"), w.SetMask(511), w.Dup(8, 7))
	w.good(w.Undo())
	if is := w.everything(); is != second {
		t.Errorf("it was\n%s\nit is\n%s", second, is)
	}
	w.good(w.Undo())
	if is := w.everything(); is != first {
		t.Errorf("it was\n%s\nit is\n%s", first, is)
	}
}

// What changes a second time behind a mark is noted already; Dup of an fd onto itself is not noted.
func TestNotes_P9_5(t *testing.T) {
	w := roomy(t)
	a, b := w.text("aaa"), w.text("bbb")
	w.good(w.Put(0, a), w.Close(0), w.Put(0, a), w.Chdir("d"), w.Chdir("/"), w.SetMask(7))
	w.notes(0)
	w.marks(1)
	w.good(w.Dup(0, 0))
	w.notes(0)
	w.good(w.Put(0, b))
	w.notes(1)
	w.good(w.Put(0, a), w.Close(0), w.Put(0, b), w.Open(0, "f", api.In))
	w.notes(1)
	w.good(w.Dup(5, 0))
	w.notes(2)
	w.good(w.Close(5))
	w.notes(2)
	w.good(w.Chdir("d"), w.Chdir("e"), w.Chdir(".."))
	w.notes(3)
	w.good(w.SetMask(8), w.SetMask(9), w.SetMask(7))
	w.notes(4)
	w.marks(2)
	w.notes(4)
	w.good(w.Close(0), w.Open(0, "/f", api.In))
	w.notes(5)
	w.good(w.Put(5, a), w.SetMask(8), w.Chdir("/"))
	w.notes(8)
	w.good(w.Undo())
	w.notes(4)
	// They are noted behind the first mark, still; behind another second one they are noted anew.
	w.good(w.Close(0), w.Put(5, a), w.SetMask(8), w.Chdir("/"))
	w.notes(4)
	w.marks(2)
	w.good(w.Put(0, b), w.Put(5, b), w.SetMask(9), w.Chdir("/d"))
	w.notes(8)
	w.good(w.Undo(), w.Undo())
	w.notes(0)
	w.opens(0, a)
	w.stands(root, 7)
	w.marks(1)
	w.good(w.Close(0), w.SetMask(9), w.Chdir("/d"))
	w.notes(3)
	w.good(w.Undo())
	w.opens(0, a)
	w.stands(root, 7)
}

// sets are calls that give a part what it has: in the world of setWorld each of another part.
func (w *world) sets() []func() api.Errno {
	id, _ := w.Handle(0)
	return []func() api.Errno{
		func() api.Errno { return w.Put(0, id) },
		func() api.Errno { return w.Dup(1, 0) },
		func() api.Errno { return w.Close(5) },
		func() api.Errno { return w.Close(15) },
		func() api.Errno { return w.Chdir(".") },
		func() api.Errno { return w.SetMask(7) },
	}
}

// setWorld has room for so many notes; its fds 0 and 1 have one handle.
func setWorld(t *testing.T, most int) *world {
	w := newWorld(t, most, 100)
	id := w.text("abc")
	w.good(w.Put(0, id), w.Put(1, id), w.table.Unref(id), w.Chdir("d"), w.SetMask(7))
	w.notes(0)
	return w
}

// What is set to what it has changes, too: it is noted the first time behind each mark.
func TestSetToTheSame_P9_5(t *testing.T) {
	w := setWorld(t, 100)
	first := w.everything()
	for n := range 3 {
		w.marks(n + 1)
		for i, set := range w.sets() {
			w.good(set())
			w.notes(n*6 + i + 1)
			w.good(set())
			w.notes(n*6 + i + 1)
		}
		w.good(w.Chdir("/d"), w.Dup(0, 1), w.Put(1, 1), w.Dup(0, 0), w.Dup(1, 1))
		w.notes(n*6 + 6)
		w.opens(0, 1, 1, 1)
		w.stands(dir, 7)
		// Of each mark that keeps them there is one more.
		w.handles(1, 2*(n+2))
		w.holds(dir, n+2)
	}
	for n := 2; n >= 0; n-- {
		w.good(w.Undo())
		w.notes(n * 6)
		w.handles(1, 2*(n+1))
		w.holds(dir, n+1)
	}
	if is := w.everything(); is != first {
		t.Errorf("it was\n%s\nit is\n%s", first, is)
	}
}

// Without an open mark nothing is noted, so it may be; behind one it may not be, where there are most notes.
func TestSetToTheSameWithoutRoom_P9_5(t *testing.T) {
	for most := range 6 {
		w := setWorld(t, most)
		w.unchanged("without a mark", func() {
			for _, set := range w.sets() {
				w.good(set())
			}
		})
		w.marks(1)
		for _, set := range w.sets()[:most] {
			w.good(set())
		}
		w.unchanged("there are most notes", func() {
			for i, set := range w.sets()[most:] {
				w.wants("set"+told(most+i), set(), api.ErrWrite)
			}
			w.good(w.Dup(0, 0), w.Dup(1, 1))
		})
		w.good(w.Undo())
		w.handles(1, 2)
		w.holds(dir, 1)
		w.stands(dir, 7)
	}
}

// Sixteen fds, the directory and the mask: no mark has more notes than that.
func TestMostNotes_P9_5(t *testing.T) {
	w := newWorld(t, 18*3, 100)
	id := w.text("")
	for n := 1; n <= 3; n++ {
		w.marks(n)
		for i := range 3 {
			for fd := range api.MaxFd {
				if n == 2 {
					w.good(w.Close(fd))
				} else {
					w.good(w.Put(fd, id))
				}
			}
			w.good(w.Chdir([]string{"/d", "/"}[(n+i)%2]), w.SetMask(n*10+i))
		}
		w.notes(18 * n)
	}
	w.marks(4)
	w.wants("Close", w.Close(0), api.ErrWrite)
	w.good(w.Undo())
	for n := 2; n >= 0; n-- {
		w.good(w.Undo())
		w.notes(18 * n)
	}
	w.opens()
	w.stands(root, 18)
	w.handles(id, 1)
}

// Where no note may be nothing changes, but what is noted already is done.
func TestErrWrite_P9_5(t *testing.T) {
	w := newWorld(t, 1, 100)
	a, b := w.text("aaa"), w.text("bbb")
	w.good(w.Put(0, a), w.Put(1, b), w.Chdir("d"))
	w.marks(1)
	w.good(w.SetMask(1))
	w.unchanged("there are most notes", func() {
		w.wants("Put", w.Put(0, b), api.ErrWrite)
		w.wants("Put", w.Put(5, b), api.ErrWrite)
		w.wants("Dup", w.Dup(1, 0), api.ErrWrite)
		w.wants("Dup", w.Dup(9, 0), api.ErrWrite)
		w.wants("Close", w.Close(0), api.ErrWrite)
		w.wants("Chdir", w.Chdir("e"), api.ErrWrite)
		w.wants("Chdir", w.Chdir("/"), api.ErrWrite)
		w.wants("Open", w.Open(0, "g", api.In), api.ErrWrite)
		w.wants("Open", w.Open(7, "g", api.More), api.ErrWrite)
		w.wants("Open", w.Open(7, "g", api.Both), api.ErrWrite)
		// What is named ahead of it is answered first.
		w.wants("Put", w.Put(16, b), api.ErrFd)
		w.wants("Put", w.Put(0, 77), api.ErrArg)
		w.wants("Dup", w.Dup(0, 9), api.ErrFd)
		w.wants("Chdir", w.Chdir("g"), api.ErrNoDir)
		w.wants("SetMask", w.SetMask(512), api.ErrArg)
		w.wants("Open", w.Open(0, "none", api.In), api.ErrNone)
		w.wants("Open", w.Open(0, "e", api.Out), api.ErrDir)
		w.good(w.Dup(1, 1), w.SetMask(1))
	})
	w.good(w.SetMask(2), w.SetMask(3))
	w.stands(dir, 3)
	w.good(w.Undo(), w.Put(0, b))
	w.stands(dir, 18)
	w.handles(a, 1, b, 3)
}

// A file that Open has made or cut stays so, though its handle may not be.
func TestErrWriteOfOpen_P9_5(t *testing.T) {
	w := newWorld(t, 0, 100)
	w.good(w.Open(1, "d/g", api.In))
	w.marks(1)
	w.wants("Open", w.Open(1, "new", api.Both), api.ErrWrite)
	w.wants("Open", w.Open(2, "more", api.More), api.ErrWrite)
	w.wants("Open", w.Open(0, "f", api.Out), api.ErrWrite)
	w.wants("Open", w.Open(0, "out", api.Out), api.ErrWrite)
	for _, path := range []string{"new", "more", "f", "out"} {
		w.bytes(path, "")
		node, _ := w.f.Walk(root, path, true)
		w.holds(node, 0)
	}
	w.opens(1, 1)
	w.handles(1, 1)
	w.bytes("d/g", "xyz")
	w.good(w.Undo())
}

// What an fd had at an open mark has its ref, till the mark is undone.
func TestRefsCountOn_P9_6(t *testing.T) {
	w := roomy(t)
	w.good(w.Open(0, "f", api.In), w.Dup(1, 0))
	w.handles(1, 2)
	w.marks(1)
	w.handles(1, 2)
	w.good(w.Close(0))
	w.handles(1, 2)
	w.good(w.Close(1))
	w.handles(1, 2)
	w.opens()
	// So its number is none for another one.
	w.good(w.Open(0, "f", api.In), w.Open(1, "d/g", api.In))
	w.opens(0, 2, 1, 3)
	w.handles(1, 2, 2, 1, 3, 1)
	// What was opened behind the mark alone is gone when it is closed.
	w.good(w.Close(0), w.Open(0, "f", api.In), w.Dup(5, 0), w.Dup(6, 1))
	w.opens(0, 2, 1, 3, 5, 2, 6, 3)
	w.handles(1, 2, 2, 2, 3, 2)
	w.marks(2)
	w.good(w.Close(0), w.Close(1), w.Close(5), w.Close(6))
	w.handles(1, 2, 2, 2, 3, 2)
	w.good(w.Undo())
	w.opens(0, 2, 1, 3, 5, 2, 6, 3)
	w.handles(1, 2, 2, 2, 3, 2)
	w.good(w.Undo())
	w.opens(0, 1, 1, 1)
	w.handles(1, 2)
	w.holds(file, 1)
	w.holds(inner, 0)
}

// Marks that nothing changed behind cost no ref: one stands for all of them.
func TestRefsOfMarks_P9_6(t *testing.T) {
	w := roomy(t)
	w.good(w.Open(0, "f", api.In))
	for n := 1; n <= 5; n++ {
		w.marks(n)
	}
	w.handles(1, 1)
	w.good(w.Close(0))
	w.handles(1, 1)
	for range 5 {
		w.good(w.Undo())
		w.opens(0, 1)
		w.handles(1, 1)
	}
	w.good(w.Close(0))
	w.handles()
}

// An fd that has again what it had at the mark has one ref more, till the mark is undone.
func TestHasAgain_P9_6(t *testing.T) {
	w := roomy(t)
	w.good(w.Open(0, "f", api.In), w.Dup(1, 0), w.Chdir("d"))
	w.marks(1)
	w.good(w.Close(0), w.Dup(0, 1), w.Chdir("/"), w.Chdir("d"))
	w.opens(0, 1, 1, 1)
	w.handles(1, 3)
	w.holds(dir, 2)
	w.good(w.Undo())
	w.opens(0, 1, 1, 1)
	w.handles(1, 2)
	w.holds(dir, 1)
}

// A pipe's end that was open at the mark is open behind it, though it was closed in between.
func TestPipeCountsOn_P9_6(t *testing.T) {
	w := roomy(t)
	from, to, _ := w.table.Pipe()
	w.good(w.Put(0, from), w.Put(1, to), w.table.Unref(from), w.table.Unref(to), w.Write(1, "abc"))
	w.marks(1)
	w.reads(0, 1, "a", api.OK)
	w.good(w.Write(1, "d"), w.Close(0), w.Close(1))
	w.handles(from, 1, to, 1)
	w.good(w.Undo())
	w.reads(0, 9, "bcd", api.OK)
	w.good(w.Close(0), w.Close(1))
	w.handles()
}

// The directory of an open mark is held, and goes on without a name.
func TestDirCountsOn_P9_6(t *testing.T) {
	w := roomy(t)
	w.good(w.Chdir("d/e"))
	w.marks(1)
	w.good(w.Chdir("/"))
	w.holds(inDir, 1)
	w.holds(root, 1)
	w.good(w.f.Remove(root, "d/e"))
	w.holds(inDir, 1)
	w.good(w.Chdir("d"), w.Chdir("/"))
	w.holds(dir, 0)
	w.good(w.Undo())
	w.stands(inDir, 18)
	w.holds(root, 0)
	w.wants("Chdir", w.Chdir(".."), api.ErrNone)
	w.good(w.Chdir("/"))
	w.holds(inDir, -1)
	// One that a process stands in behind the mark alone is gone with the mark.
	w.marks(1)
	w.good(w.f.Remove(root, "d/g"), w.Chdir("d"), w.f.Remove(root, "d"))
	w.holds(dir, 1)
	w.good(w.Undo())
	w.holds(dir, -1)
	w.stands(root, 18)
	w.holds(root, 1)
}

// Files, and places of handles that were open at the mark, stay as they were left.
func TestFilesStay_P9_6(t *testing.T) {
	w := roomy(t)
	w.good(w.Open(0, "f", api.In), w.Open(1, "out", api.Out), w.Write(1, "1"))
	w.marks(1)
	w.reads(0, 1, "a", api.OK)
	w.good(w.Dup(5, 0), w.Close(0))
	w.reads(5, 1, "b", api.OK)
	w.good(w.Write(1, "2"), w.Dup(6, 1), w.Write(6, "3"), w.Close(1), w.Open(1, "out", api.More), w.Write(1, "4"))
	w.good(w.Open(7, "made", api.Out), w.Write(7, "new"), w.Open(8, "d/g", api.Out), w.f.Remove(root, "l"))
	w.good(w.Undo())
	w.reads(0, 9, "c", api.OK)
	w.good(w.Write(1, "!"))
	w.bytes("out", "123!")
	w.bytes("made", "new")
	w.bytes("d/g", "")
	if _, e := w.f.Walk(root, "l", false); e != api.ErrNone {
		t.Error(e)
	}
	w.opens(0, 1, 1, 2)
	w.handles(1, 1, 2, 1)
}

// A mark that was open ahead of the process: behind it the process is as New made it.
func TestMarkAheadOfNew_P9_5(t *testing.T) {
	below := roomy(t)
	below.log.Mark()
	p, e := proc.New(below.f, below.table, below.log)
	w := &world{p, t, below.f, below.table, below.log}
	w.good(e, w.Open(0, "f", api.In), w.Chdir("d"), w.SetMask(1), w.Undo())
	w.opens()
	w.stands(root, 18)
	w.handles()
	w.holds(root, 2)
}

// Two processes of one log go back together, each to what it had.
func TestTwoOfOneLog_P9_5(t *testing.T) {
	a := roomy(t)
	p, e := proc.New(a.f, a.table, a.log)
	b := &world{p, t, a.f, a.table, a.log}
	a.good(e, a.Open(0, "f", api.In), b.Put(3, 1))
	a.marks(1)
	a.good(a.Close(0), b.Close(3), b.Open(3, "d/g", api.In), b.SetMask(1), a.Chdir("d"))
	a.handles(1, 2, 2, 1)
	a.good(b.Undo())
	a.opens(0, 1)
	b.opens(3, 1)
	a.handles(1, 2)
	a.stands(root, 18)
	b.stands(root, 18)
}

// Somebody else's note may call the process while the log is undone: what it changes goes back likewise.
func TestNoteChanges_P9_5(t *testing.T) {
	for _, first := range []bool{true, false} {
		w := roomy(t)
		a, b := w.text("aaa"), w.text("bbb")
		w.good(w.Put(0, a), w.table.Unref(a))
		w.marks(1)
		change := func() {
			w.good(w.Put(0, b), w.Put(1, b), w.SetMask(5), w.Chdir("/d"))
		}
		if first {
			w.log.Note(change)
		}
		w.good(w.Close(0), w.SetMask(6))
		if !first {
			w.log.Note(change)
		}
		w.good(w.Undo())
		w.opens(0, a)
		w.handles(a, 1, b, 1)
		w.stands(root, 18)
		w.notes(0)
		w.holds(dir, 0)
	}
}

// What somebody else has taken away from under a process is told as it is, and nothing panics.
func TestTakenAway_R1(t *testing.T) {
	w := roomy(t)
	w.good(w.Open(0, "f", api.In), w.Chdir("d/e"), w.f.Remove(root, "d/e"))
	w.marks(1)
	w.good(w.Open(1, "/f", api.In))
	w.good(w.table.Unref(1), w.f.Drop(inDir))
	w.opens(0, 1, 1, 2)
	w.reads(0, 1, "", api.ErrFd)
	w.writes(0, "", api.ErrFd)
	w.wants("Put", w.Put(3, 1), api.ErrArg)
	w.wants("Chdir", w.Chdir("/"), api.ErrArg)
	w.wants("Open", w.Open(3, "/f", api.In), api.ErrArg)
	w.good(w.Close(0), w.Undo(), w.Close(0))
	w.opens()
	w.handles()
}

// Things that nobody made are no tree, table or log; calls answer, and nothing panics.
func TestUnmade_R1(t *testing.T) {
	w := roomy(t)
	if p, e := proc.New(w.f, &handles.Table{}, &undo.Log{}); e == api.OK {
		p.Open(0, "f", api.Out)
		p.Put(0, 1)
		p.Close(0)
		p.Chdir("d")
		p.SetMask(1)
		if n, e := p.Mark(); n != 0 || e == api.OK {
			t.Error(n, e)
		}
		if e := p.Undo(); e == api.OK {
			t.Error(e)
		}
	}
}
