package undo_test

import (
	"cmp"
	"math"
	"slices"
	"testing"

	"whelk/api"
	"whelk/undo"
)

// has is that k has v.
func has[K cmp.Ordered, V comparable](t *testing.T, m *undo.Map[K, V], k K, v V) {
	t.Helper()
	if got, there := m.Get(k); got != v || !there {
		t.Errorf("%v has %v, %v, want %v", k, got, there, v)
	}
}

// hasNot is that k is not there.
func hasNot[K cmp.Ordered, V comparable](t *testing.T, m *undo.Map[K, V], k K) {
	t.Helper()
	var none V
	if got, there := m.Get(k); got != none || there {
		t.Errorf("%v has %v, %v, want nothing", k, got, there)
	}
}

// keys is that those are the keys.
func keys[K cmp.Ordered, V any](t *testing.T, m *undo.Map[K, V], want ...K) {
	t.Helper()
	if got := m.Keys(); !slices.Equal(got, want) {
		t.Error("keys", got, "want", want)
	}
}

func TestSet_P8_2(t *testing.T) {
	l := newLog(t, 4, 2)
	m := undo.NewMap[string, string](l)
	keys(t, m)
	hasNot(t, m, "")
	wants(t, "Set", m.Set("", "empty"), api.OK)
	wants(t, "Set", m.Set("a", "1"), api.OK)
	stands(t, l, 0, 0)
	marks(t, l, 1)
	wants(t, "Set", m.Set("a", "2"), api.OK)
	wants(t, "Set", m.Set("a", "2"), api.OK)
	wants(t, "Set", m.Set("b", "3"), api.OK)
	wants(t, "Set", m.Set("", ""), api.OK)
	stands(t, l, 1, 4)
	has(t, m, "a", "2")
	has(t, m, "b", "3")
	has(t, m, "", "")
	keys(t, m, "", "a", "b")
	wants(t, "Set", m.Set("a", "4"), api.ErrWrite)
	wants(t, "Set", m.Set("c", "5"), api.ErrWrite)
	has(t, m, "a", "2")
	hasNot(t, m, "c")
	wants(t, "Undo", l.Undo(), api.OK)
	has(t, m, "a", "1")
	has(t, m, "", "empty")
	hasNot(t, m, "b")
	keys(t, m, "", "a")
}

func TestDelete_P8_2(t *testing.T) {
	l := newLog(t, 2, 2)
	m := undo.NewMap[int, string](l)
	wants(t, "Delete", m.Delete(1), api.OK)
	for k := range 4 {
		wants(t, "Set", m.Set(k, "v"), api.OK)
	}
	wants(t, "Delete", m.Delete(3), api.OK)
	hasNot(t, m, 3)
	marks(t, l, 1)
	wants(t, "Delete", m.Delete(3), api.OK)
	stands(t, l, 1, 0)
	wants(t, "Delete", m.Delete(1), api.OK)
	wants(t, "Delete", m.Delete(1), api.OK)
	wants(t, "Delete", m.Delete(0), api.OK)
	stands(t, l, 1, 2)
	keys(t, m, 2)
	wants(t, "Delete", m.Delete(2), api.ErrWrite)
	wants(t, "Delete", m.Delete(1), api.OK)
	wants(t, "Delete", m.Delete(77), api.OK)
	keys(t, m, 2)
	has(t, m, 2, "v")
	wants(t, "Undo", l.Undo(), api.OK)
	keys(t, m, 0, 1, 2)
	hasNot(t, m, 3)
	has(t, m, 1, "v")
}

// A key that was deleted and set again goes back to what it had ahead of that.
func TestDeleteAndSet_P8_2(t *testing.T) {
	l := newLog(t, 10, 2)
	m := undo.NewMap[string, int](l)
	wants(t, "Set", m.Set("a", 1), api.OK)
	marks(t, l, 1)
	wants(t, "Delete", m.Delete("a"), api.OK)
	wants(t, "Set", m.Set("a", 2), api.OK)
	wants(t, "Set", m.Set("b", 2), api.OK)
	wants(t, "Delete", m.Delete("b"), api.OK)
	stands(t, l, 1, 4)
	wants(t, "Undo", l.Undo(), api.OK)
	has(t, m, "a", 1)
	keys(t, m, "a")
}

// A zero value is a value as others are.
func TestZeroValues_P8_2(t *testing.T) {
	l := newLog(t, 10, 2)
	m := undo.NewMap[string, []int](l)
	wants(t, "Set", m.Set("a", nil), api.OK)
	marks(t, l, 1)
	wants(t, "Delete", m.Delete("a"), api.OK)
	wants(t, "Set", m.Set("b", nil), api.OK)
	keys(t, m, "b")
	wants(t, "Undo", l.Undo(), api.OK)
	if v, there := m.Get("a"); v != nil || !there {
		t.Error(v, there)
	}
	keys(t, m, "a")
}

func TestKeys_P8_2(t *testing.T) {
	l := newLog(t, 1000, 2)
	words := undo.NewMap[string, int](l)
	for i, k := range []string{"b", "ab", "", "a", "\xff", "B", "\x00", "b", "é"} {
		wants(t, "Set", words.Set(k, i), api.OK)
	}
	keys(t, words, "", "\x00", "B", "a", "ab", "b", "é", "\xff")
	numbers := undo.NewMap[int8, int](l)
	for i := range 256 {
		wants(t, "Set", numbers.Set(int8(i*77), i), api.OK)
	}
	got := numbers.Keys()
	if len(got) != 256 || got[0] != -128 || got[255] != 127 || !slices.IsSorted(got) {
		t.Error(got)
	}
	type name string
	named := undo.NewMap[name, struct{}](l)
	named.Set("z", struct{}{})
	named.Set("y", struct{}{})
	keys(t, named, "y", "z")
}

func TestNotANumber_P8_2(t *testing.T) {
	l := newLog(t, 1, 2)
	m := undo.NewMap[float64, int](l)
	nan := math.NaN()
	never := func(set api.Errno) {
		t.Helper()
		wants(t, "Set", m.Set(nan, 1), set)
		wants(t, "Delete", m.Delete(nan), api.OK)
		hasNot(t, m, nan)
		keys(t, m, math.Inf(-1), math.Inf(1))
	}
	wants(t, "Set", m.Set(math.Inf(1), 1), api.OK)
	wants(t, "Set", m.Set(math.Inf(-1), 1), api.OK)
	never(api.ErrArg)
	marks(t, l, 1)
	never(api.ErrArg)
	stands(t, l, 1, 0)
	wants(t, "Note", l.Note(func() {}), api.OK)
	never(api.ErrWrite)
	stands(t, l, 1, 1)
	small := undo.NewMap[float32, int](newLog(t, 1, 1))
	wants(t, "Set", small.Set(float32(nan), 1), api.ErrArg)
	wants(t, "Set of a nil log", undo.NewMap[float64, int](nil).Set(nan, 1), api.ErrNil)
}

// Both zeros are one key, which stays as it is told, too.
func TestZeros_P8_4(t *testing.T) {
	l := newLog(t, 9, 2)
	m := undo.NewMap[float64, int](l)
	minus := math.Copysign(0, -1)
	for _, k := range []float64{0, minus} {
		for _, other := range []float64{0, minus} {
			for _, set := range []bool{true, false} {
				m.Delete(k)
				wants(t, "Set", m.Set(k, 1), api.OK)
				was := m.Keys()
				marks(t, l, 1)
				if set {
					wants(t, "Set", m.Set(other, 2), api.OK)
					has(t, m, k, 2)
				}
				wants(t, "Delete", m.Delete(other), api.OK)
				hasNot(t, m, k)
				wants(t, "Undo", l.Undo(), api.OK)
				has(t, m, other, 1)
				is := m.Keys()
				if len(is) != 1 || math.Float64bits(is[0]) != math.Float64bits(was[0]) {
					t.Error(k, other, set, was, is)
				}
			}
		}
	}
}

func TestNil_P8_2(t *testing.T) {
	var none *undo.Map[string, int]
	unmade := &undo.Map[string, int]{}
	for _, m := range []*undo.Map[string, int]{none, unmade, undo.NewMap[string, int](nil), undo.NewMap[string, int](&undo.Log{})} {
		wants(t, "Set", m.Set("a", 1), api.ErrNil)
		wants(t, "Delete", m.Delete("a"), api.ErrNil)
		hasNot(t, m, "a")
		hasNot(t, m, "")
		keys(t, m)
	}
}

// What Keys answers is the caller's.
func TestAnswersAreNew_R2(t *testing.T) {
	m := undo.NewMap[string, int](newLog(t, 1, 1))
	m.Set("a", 1)
	m.Set("b", 2)
	got := m.Keys()
	got[0], got[1] = "x", "y"
	_ = append(got[:1], "z")
	keys(t, m, "a", "b")
	m.Set("c", 3)
	if got[0] != "x" || got[1] != "z" {
		t.Error(got)
	}
}

// Two maps of one log note in one row.
func TestMapsOfOneLog_P8_2(t *testing.T) {
	l := newLog(t, 3, 2)
	a, b := undo.NewMap[string, int](l), undo.NewMap[string, int](l)
	marks(t, l, 1)
	wants(t, "Set", a.Set("k", 1), api.OK)
	wants(t, "Set", b.Set("k", 2), api.OK)
	has(t, a, "k", 1)
	has(t, b, "k", 2)
	wants(t, "Delete", a.Delete("k"), api.OK)
	hasNot(t, a, "k")
	has(t, b, "k", 2)
	stands(t, l, 1, 3)
	wants(t, "Set", b.Set("k", 3), api.ErrWrite)
	wants(t, "Undo", l.Undo(), api.OK)
	keys(t, a)
	keys(t, b)
}

// A map that was made behind a mark is as it was then: without keys.
func TestMadeBehindAMark_P8_4(t *testing.T) {
	l := newLog(t, 9, 3)
	marks(t, l, 1)
	marks(t, l, 2)
	m, c := undo.NewMap[string, int](l), undo.NewCell(l, "new")
	wants(t, "Set", m.Set("a", 1), api.OK)
	wants(t, "Set", c.Set("newer"), api.OK)
	wants(t, "Undo", l.Undo(), api.OK)
	keys(t, m)
	if c.Get() != "new" {
		t.Error(c.Get())
	}
	wants(t, "Set", m.Set("b", 1), api.OK)
	stands(t, l, 1, 1)
	wants(t, "Undo", l.Undo(), api.OK)
	keys(t, m)
}
