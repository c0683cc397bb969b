package undo_test

import (
	"maps"
	"math"
	"math/rand/v2"
	"slices"
	"strconv"
	"strings"
	"testing"

	"whelk/api"
	"whelk/undo"
)

// things is all that may go back; the second reading copies it whole at each mark.
type things struct {
	words  map[string]int
	floats map[float64]string
	cell   int
	other  string
}

func (x things) copied() things {
	x.words, x.floats = maps.Clone(x.words), maps.Clone(x.floats)
	return x
}

// copies is a log that keeps, mark by mark, how all was, and what was noted.
type copies struct {
	most, nest int
	now        things
	at         []things
	notes      [][]string // of a mark: what its notes say; a change says nothing
	said       string
}

func (c *copies) len() int { return len(slices.Concat(c.notes...)) }

func (c *copies) mark() (int, api.Errno) {
	if len(c.at) == c.nest {
		return 0, api.ErrNest
	}
	c.at = append(c.at, c.now.copied())
	c.notes = append(c.notes, nil)
	return len(c.at), api.OK
}

func (c *copies) undo() api.Errno {
	last := len(c.at) - 1
	if last < 0 {
		return api.ErrArg
	}
	c.now = c.at[last]
	for _, s := range slices.Backward(c.notes[last]) {
		c.said += s
	}
	c.at, c.notes = c.at[:last], c.notes[:last]
	return api.OK
}

func (c *copies) note(s string) api.Errno {
	last := len(c.at) - 1
	switch {
	case last < 0:
		return api.OK
	case c.len() == c.most:
		return api.ErrWrite
	}
	c.notes[last] = append(c.notes[last], s)
	return api.OK
}

// world is the package's own and the second reading, side by side.
type world struct {
	r      *rand.Rand
	l      *undo.Log
	words  *undo.Map[string, int]
	floats *undo.Map[float64, string]
	cell   *undo.Cell[int]
	other  *undo.Cell[string]
	said   strings.Builder
	second *copies
	met    map[string]int
}

func newWorld(t *testing.T, r *rand.Rand, met map[string]int) *world {
	t.Helper()
	most, nest := r.IntN(40), 1+r.IntN(6)
	l := newLog(t, most, nest)
	first := things{words: map[string]int{}, floats: map[float64]string{}, cell: 5, other: "o"}
	return &world{
		r: r, l: l, met: met,
		words: undo.NewMap[string, int](l), floats: undo.NewMap[float64, string](l),
		cell: undo.NewCell(l, 5), other: undo.NewCell(l, "o"),
		second: &copies{most: most, nest: nest, now: first},
	}
}

// step does one call on both, and is what they answered.
func (w *world) step() (string, api.Errno, api.Errno) {
	word := []string{"", "a", "b", "ab", "\xff"}[w.r.IntN(5)]
	float := []float64{0, 1, -1, math.Inf(1), math.NaN()}[w.r.IntN(5)]
	n := w.r.IntN(4)
	c := w.second
	switch w.r.IntN(11) {
	case 0:
		got, e := w.l.Mark()
		want, f := c.mark()
		if got != want {
			return "Mark's number", -1, f
		}
		return "Mark", e, f
	case 1:
		return "Undo", w.l.Undo(), c.undo()
	case 2:
		s := strconv.Itoa(w.r.IntN(100)) + " "
		return "Note", w.l.Note(func() { w.said.WriteString(s) }), c.note(s)
	case 3, 4:
		e := w.words.Set(word, n)
		return "Set of words", e, c.change(func() { c.now.words[word] = n })
	case 5:
		e := w.words.Delete(word)
		if _, there := c.now.words[word]; !there {
			return "Delete of words", e, api.OK
		}
		return "Delete of words", e, c.change(func() { delete(c.now.words, word) })
	case 6:
		e := w.floats.Set(float, word)
		if float != float {
			return "Set of floats", e, c.refused(api.ErrArg)
		}
		return "Set of floats", e, c.change(func() { c.now.floats[float] = word })
	case 7:
		e := w.floats.Delete(float)
		if _, there := c.now.floats[float]; !there {
			return "Delete of floats", e, api.OK
		}
		return "Delete of floats", e, c.change(func() { delete(c.now.floats, float) })
	case 8:
		return "Note of nil", w.l.Note(nil), c.refused(api.ErrArg)
	case 9:
		return "Set of a cell", w.cell.Set(n), c.change(func() { c.now.cell = n })
	}
	return "Set of the other cell", w.other.Set(word), c.change(func() { c.now.other = word })
}

// change does what is noted, if it may be.
func (c *copies) change(do func()) api.Errno {
	e := c.note("")
	if e == api.OK {
		do()
	}
	return e
}

// refused is a note's error, and else that one.
func (c *copies) refused(e api.Errno) api.Errno {
	if len(c.at) > 0 && c.len() == c.most {
		return api.ErrWrite
	}
	return e
}

// same is whether both tell the same.
func (w *world) same() bool {
	c := w.second
	for k, v := range c.now.words {
		if got, there := w.words.Get(k); got != v || !there {
			return false
		}
	}
	for k, v := range c.now.floats {
		if got, there := w.floats.Get(k); got != v || !there {
			return false
		}
	}
	return w.l.Marks() == len(c.at) && w.l.Len() == c.len() && w.said.String() == c.said &&
		slices.Equal(w.words.Keys(), slices.Sorted(maps.Keys(c.now.words))) &&
		slices.Equal(w.floats.Keys(), slices.Sorted(maps.Keys(c.now.floats))) &&
		w.cell.Get() == c.now.cell && w.other.Get() == c.now.other
}

// Rows of calls made up at random, and all that there is asked behind each.
func TestSecondReading_P8_4(t *testing.T) {
	met := map[string]int{}
	for seed := range uint64(3000) {
		w := newWorld(t, rand.New(rand.NewPCG(8, seed)), met)
		for i := range 120 {
			call, got, want := w.step()
			if got != want || !w.same() {
				t.Fatal(seed, i, call, got, want, w.second)
			}
			met[call+" "+strconv.Itoa(int(got))]++
		}
		for w.second.undo() == api.OK {
			wants(t, "Undo", w.l.Undo(), api.OK)
			if !w.same() {
				t.Fatal(seed, "at the end", w.second)
			}
		}
		stands(t, w.l, 0, 0)
	}
	for _, key := range []string{
		"Mark 0", "Mark 42", "Undo 0", "Undo 1", "Note 0", "Note 43", "Note of nil 1", "Note of nil 43",
		"Set of words 0", "Set of words 43", "Delete of words 0", "Delete of words 43",
		"Set of floats 0", "Set of floats 1", "Set of floats 43", "Delete of floats 0", "Delete of floats 43",
		"Set of a cell 0", "Set of a cell 43", "Set of the other cell 0", "Set of the other cell 43",
	} {
		if met[key] < 50 {
			t.Error(key, "was met", met[key])
		}
	}
}
