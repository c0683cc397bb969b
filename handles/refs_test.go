package handles_test

import (
	"math"
	"math/rand/v2"
	"slices"
	"strings"
	"testing"

	"whelk/api"
	"whelk/handles"
)

// oneOfEach has a handle of each kind: 1 to 6, the files reading and writing with More.
func oneOfEach(t *testing.T) *world {
	t.Helper()
	w := newWorld(t, 100, 10, "xyz")
	w.file(4, reading, 1)
	w.file(4, more, 2)
	w.text("abc", 3)
	w.sink(5, 4)
	w.pipe(5, 6)
	return w
}

func TestRefs_P7_2(t *testing.T) {
	w := oneOfEach(t)
	for id := 1; id <= 6; id++ {
		for n := 2; n <= 5; n++ {
			w.wants("Ref", w.Ref(id), api.OK)
			if i, _ := w.Stat(id); i.Refs != n {
				t.Error(id, i.Refs, n)
			}
		}
		for n := 4; n >= 1; n-- {
			w.unrefs(id)
			if i, e := w.Stat(id); i.Refs != n || e != api.OK {
				t.Error(id, i.Refs, n, e)
			}
		}
	}
	// Refs are of the handle alone: its node is held once, its pipe has one buffer.
	w.holds(4, 2)
	w.buffers(1)
	w.all(1, 2, 3, 4, 5, 6)
}

func TestLastRef_P7_2(t *testing.T) {
	for id := 1; id <= 6; id++ {
		w := oneOfEach(t)
		w.wants("Ref", w.Ref(id), api.OK)
		w.unrefs(id, id)
		w.unchanged("what is gone", func() { gone(w, id) })
		var left []int
		for other := 1; other <= 6; other++ {
			if other != id {
				left = append(left, other)
				w.wants("Ref", w.Ref(other), api.OK)
			}
		}
		w.all(left...)
	}
}

// gone wants ErrFd of all that is asked of a number, ahead of what else is wrong.
func gone(w *world, id int) {
	w.t.Helper()
	w.wants("Ref", w.Ref(id), api.ErrFd)
	w.wants("Unref", w.Unref(id), api.ErrFd)
	for _, n := range []int{0, 5, -1, math.MinInt, math.MaxInt} {
		w.reads(id, n, "", api.ErrFd)
	}
	for _, s := range []string{"", "a", strings.Repeat("x", 5000)} {
		w.writes(id, s, api.ErrFd)
	}
	w.sees(id, "", api.ErrFd)
	if i, e := w.Stat(id); i != (handles.Info{}) || e != api.ErrFd {
		w.t.Error("Stat", id, i, e)
	}
}

func TestNoHandle_P7_2(t *testing.T) {
	for _, w := range []*world{roomy(t), oneOfEach(t)} {
		w.unchanged("no handles", func() {
			for _, id := range []int{0, 7, 8, -1, -6, math.MaxInt, math.MinInt} {
				gone(w, id)
			}
		})
	}
}

// A File's last ref drops its node, which is gone then, if it has no name.
func TestFileIsHeld_P7_2(t *testing.T) {
	w := roomy(t, "xyz", "other")
	w.file(4, reading, 1)
	w.file(4, writing, 2)
	w.wants("Ref", w.Ref(1), api.OK)
	w.wants("Remove", w.f.Remove(root, "f4"), api.OK)
	w.unrefs(1)
	w.holds(4, 2)
	w.unrefs(1)
	w.holds(4, 1)
	w.writes(2, "XY", api.OK)
	w.bytes(4, "XYz")
	w.unrefs(2)
	if _, e := w.f.Stat(4); e != api.ErrNone {
		t.Error("it lives", e)
	}
	w.holds(5, 0)
	if many, used := w.f.Used(); many != 4 || used != 2+5 {
		t.Error(many, used)
	}
}

// The buffer stays, be it the Reader or the Writer that is gone first.
func TestPipeIsClosed_P7_2(t *testing.T) {
	w := roomy(t)
	w.pipe(1, 2)
	w.writes(2, "abc", api.OK)
	w.unrefs(2)
	w.buffers(1)
	w.stats(1, handles.Info{Kind: handles.Reader, Refs: 1, At: 3})
	w.reads(1, 2, "ab", api.OK)
	w.unrefs(1)
	w.buffers(0)
	if w.p.Held() != 0 {
		t.Error(w.p.Held())
	}
	w.pipe(1, 2)
	w.writes(2, "abc", api.OK)
	w.unrefs(1)
	w.buffers(1)
	w.writes(2, "de", api.OK)
	w.stats(2, handles.Info{Kind: handles.Writer, Refs: 1, At: 5})
	w.wants("Ref", w.Ref(2), api.OK)
	w.unrefs(2)
	w.buffers(1)
	w.unrefs(2)
	w.buffers(0)
	if w.p.Held() != 0 {
		t.Error(w.p.Held())
	}
}

func TestStat_P7_2(t *testing.T) {
	w := newWorld(t, 100, 10, "xyz")
	w.file(4, both, 1)
	w.text("abcdef", 2)
	w.sink(9, 3)
	w.pipe(4, 5)
	w.reads(1, 2, "xy", api.OK)
	w.stats(1, handles.Info{Kind: handles.File, Refs: 1, At: 2, Node: 4, Mode: both})
	w.writes(1, "12345", api.OK)
	w.stats(1, handles.Info{Kind: handles.File, Refs: 1, At: 7, Node: 4, Mode: both})
	w.reads(2, 4, "abcd", api.OK)
	w.stats(2, handles.Info{Kind: handles.Text, Refs: 1, At: 4})
	w.writes(3, "four", api.OK)
	w.stats(3, handles.Info{Kind: handles.Sink, Refs: 1, At: 4})
	w.writes(5, "sixsix", api.OK)
	w.reads(4, 1, "s", api.OK)
	w.stats(4, handles.Info{Kind: handles.Reader, Refs: 1, At: 5})
	w.stats(5, handles.Info{Kind: handles.Writer, Refs: 1, At: 5})
	w.wants("Ref", w.Ref(4), api.OK)
	w.stats(4, handles.Info{Kind: handles.Reader, Refs: 2, At: 5})
	w.stats(5, handles.Info{Kind: handles.Writer, Refs: 1, At: 5})
}

// A new handle's number is the least one that no other one has, of whatever kind both are.
func TestNumbers_P7_2(t *testing.T) {
	w := roomy(t, "xyz")
	for id := 1; id <= 9; id++ {
		w.text("", id)
	}
	w.unrefs(7, 2, 9, 4)
	w.all(1, 3, 5, 6, 8)
	w.sink(5, 2)
	w.file(4, reading, 4)
	w.unrefs(3)
	w.pipe(3, 7)
	w.text("", 9)
	w.text("", 10)
	w.unrefs(10, 9)
	w.text("", 9)
	w.text("", 10)
	w.all(1, 2, 3, 4, 5, 6, 7, 8, 9, 10)
	w.unrefs(1, 2, 3, 4, 5, 6, 7, 8, 9, 10)
	w.all()
	w.pipe(1, 2)
	// Errors take no number.
	w.File(77, reading)
	w.Sink(-1)
	w.text("", 3)
}

// All is in order, and new each time (R2), whatever order they came in.
func TestAll_P7_2(t *testing.T) {
	w := roomy(t)
	r := rand.New(rand.NewPCG(7, 2))
	var there []int
	for range 3000 {
		if len(there) > 0 && r.IntN(5) < 2 {
			i := r.IntN(len(there))
			w.unrefs(there[i])
			there = slices.Delete(there, i, i+1)
			continue
		}
		id, _ := w.Text("")
		least := 1
		for slices.Contains(there, least) {
			least++
		}
		if id != least {
			t.Fatal(id, least, there)
		}
		there = append(there, id)
		slices.Sort(there)
		got := w.All()
		if !slices.Equal(got, there) {
			t.Fatal(got, there)
		}
		clear(got)
	}
}

func TestSeen_P7_2(t *testing.T) {
	w := oneOfEach(t)
	w.unchanged("Seen", func() {
		for _, id := range []int{1, 2, 3, 5, 6} {
			w.sees(id, "", api.ErrMode)
		}
	})
	w.sees(4, "", api.OK)
	for i, s := range []string{"a", "", "\x00\n", "\xff"} {
		w.writes(4, s, api.OK)
		w.sees(4, "a\x00\n\xff"[:[]int{1, 1, 3, 4}[i]], api.OK)
	}
	// What was seen stays as it was.
	got, _ := w.Seen(4)
	w.writes(4, "z", api.OK)
	if got != "a\x00\n\xff" {
		t.Errorf("%q", got)
	}
	w.sees(4, "a\x00\n\xffz", api.OK)
}

// Many handles are done in a breath, whichever are gone.
func TestManyHandles_Limits(t *testing.T) {
	w := newWorld(t, 100, 1048576, "xyz")
	const many = 200000
	for id := 1; id <= many; id++ {
		if got, e := w.Text("abc"); got != id || e != api.OK {
			t.Fatal(id, got, e)
		}
	}
	// The first one goes and comes, and one more is asked for each time.
	for id := many + 1; id <= 2*many; id++ {
		w.unrefs(1)
		w.text("abc", 1)
		w.text("", id)
	}
	for id := 2; id < 2*many; id += 2 {
		w.unrefs(id)
	}
	for id := 2; id < 2*many; id += 2 {
		w.file(4, reading, id)
	}
	w.holds(4, many-1)
	for id := 2 * many; id > 0; id-- {
		w.unrefs(id)
	}
	w.all()
	w.holds(4, 0)
	w.pipe(1, 2)
}
