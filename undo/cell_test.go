package undo_test

import (
	"testing"

	"whelk/api"
	"whelk/undo"
)

// cell is that c has v.
func cell[V comparable](t *testing.T, c *undo.Cell[V], v V) {
	t.Helper()
	if c.Get() != v {
		t.Error("cell", c.Get(), "want", v)
	}
}

func TestCell_P8_3(t *testing.T) {
	l := newLog(t, 3, 3)
	c := undo.NewCell(l, "a")
	cell(t, c, "a")
	wants(t, "Set", c.Set("b"), api.OK)
	cell(t, c, "b")
	stands(t, l, 0, 0)
	marks(t, l, 1)
	wants(t, "Set", c.Set("c"), api.OK)
	wants(t, "Set", c.Set("c"), api.OK)
	stands(t, l, 1, 2)
	marks(t, l, 2)
	wants(t, "Set", c.Set(""), api.OK)
	cell(t, c, "")
	wants(t, "Set", c.Set("e"), api.ErrWrite)
	cell(t, c, "")
	stands(t, l, 2, 3)
	wants(t, "Undo", l.Undo(), api.OK)
	cell(t, c, "c")
	wants(t, "Undo", l.Undo(), api.OK)
	cell(t, c, "b")
}

func TestCellsOfManyTypes_P8_3(t *testing.T) {
	l := newLog(t, 9, 3)
	type pair struct {
		a int
		b string
	}
	number, two, list := undo.NewCell(l, 7), undo.NewCell(l, pair{1, "x"}), undo.NewCell(l, []int{1, 2})
	marks(t, l, 1)
	wants(t, "Set", number.Set(8), api.OK)
	wants(t, "Set", two.Set(pair{}), api.OK)
	wants(t, "Set", list.Set(nil), api.OK)
	cell(t, number, 8)
	cell(t, two, pair{})
	if list.Get() != nil {
		t.Error(list.Get())
	}
	wants(t, "Undo", l.Undo(), api.OK)
	cell(t, number, 7)
	cell(t, two, pair{1, "x"})
	if got := list.Get(); len(got) != 2 || got[1] != 2 {
		t.Error(got)
	}
}

func TestNil_P8_3(t *testing.T) {
	var none *undo.Cell[string]
	wants(t, "Set", none.Set("a"), api.ErrNil)
	cell(t, none, "")
	unmade := &undo.Cell[string]{}
	wants(t, "Set", unmade.Set("a"), api.ErrNil)
	cell(t, unmade, "")
	for _, l := range []*undo.Log{nil, {}} {
		c := undo.NewCell(l, "a")
		wants(t, "Set", c.Set("b"), api.ErrNil)
		cell(t, c, "a")
	}
}
