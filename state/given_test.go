package state_test

import (
	"math"
	"slices"
	"strings"
	"testing"

	"whelk/api"
)

// argsAre wants those arguments.
func (w *world) argsAre(want ...string) {
	w.t.Helper()
	if got := w.Args(); !slices.Equal(got, want) {
		w.t.Errorf("arguments %.200q, not %.200q", got, want)
	}
}

// cursorIs wants that cursor.
func (w *world) cursorIs(at, in int) {
	w.t.Helper()
	if a, i := w.Cursor(); a != at || i != in {
		w.t.Errorf("cursor %d and %d, not %d and %d", a, i, at, in)
	}
}

// optionsAre wants that those options are on, and no other byte is.
func (w *world) optionsAre(want string) {
	w.t.Helper()
	if got := w.Options(); got != want {
		w.t.Errorf("options %q, not %q", got, want)
	}
	for o := range 256 {
		if on := w.Option(byte(o)); on != slices.Contains([]byte(want), byte(o)) {
			w.t.Errorf("option %d is %v of %q", o, on, want)
		}
	}
}

// Each option from each row of options, on and off.
func TestOptions_P10_4(t *testing.T) {
	const all = "Caefux"
	for n := range 64 {
		was := ""
		for i := range len(all) {
			if n>>i&1 > 0 {
				was += all[i : i+1]
			}
		}
		for i := range len(all) {
			for _, on := range []bool{false, true} {
				w := roomy(t)
				for _, o := range slices.Backward([]byte(was)) {
					w.good(w.SetOption(o, true))
				}
				w.optionsAre(was)
				w.good(w.SetOption(all[i], on))
				want := strings.ReplaceAll(was, all[i:i+1], "")
				if on {
					sorted := append([]byte(want), all[i])
					slices.Sort(sorted)
					want = string(sorted)
				}
				w.optionsAre(want)
				w.good(w.SetOption(all[i], on))
				w.optionsAre(want)
			}
		}
	}
}

func TestOptionErrors_P10_4(t *testing.T) {
	w := rich(t)
	w.unchanged("a wrong SetOption", func() {
		for o := range 256 {
			if slices.Contains([]byte("Caefux"), byte(o)) {
				continue
			}
			for _, on := range []bool{false, true} {
				w.wants("SetOption", w.SetOption(byte(o), on), api.ErrArg)
			}
		}
	})
	w.optionsAre("u")
}

func TestSetArgs_P10_4(t *testing.T) {
	w := roomy(t)
	w.argsAre()
	w.good(w.SetArgs([]string{"a", "", "b\x00\xff", big(4096)}))
	w.argsAre("a", "", "b\x00\xff", big(4096))
	w.cursorIs(1, 0)
	w.good(w.SetCursor(3, 2), w.SetArgs([]string{"x"}))
	w.argsAre("x")
	w.cursorIs(1, 0)
	w.good(w.SetCursor(3, 2), w.SetArgs(nil))
	w.argsAre()
	w.cursorIs(1, 0)
	w.good(w.SetCursor(0, 9), w.SetArgs([]string{}))
	w.argsAre()
	w.cursorIs(1, 0)
	most := make([]string, 1000)
	most[999] = big(4096)
	w.good(w.SetArgs(most))
	w.argsAre(most...)
}

func TestSetArgsErrors_P10_4(t *testing.T) {
	w := rich(t)
	w.unchanged("a wrong SetArgs", func() {
		w.wants("SetArgs", w.SetArgs(make([]string, 1001)), api.ErrMany)
		w.wants("SetArgs", w.SetArgs(slices.Repeat([]string{big(4097)}, 1001)), api.ErrMany)
		w.wants("SetArgs", w.SetArgs(make([]string, 100000)), api.ErrMany)
		w.wants("SetArgs", w.SetArgs([]string{big(4097)}), api.ErrBig)
		for _, at := range []int{0, 1, 500, 999} {
			l := make([]string, 1000)
			l[at] = big(4097)
			w.wants("SetArgs", w.SetArgs(l), api.ErrBig)
		}
	})
}

func TestShift_P10_4(t *testing.T) {
	all := []string{"a", "b", "", "d"}
	for n := range 5 {
		for m := range 6 - n {
			w := roomy(t)
			w.good(w.SetArgs(all), w.SetCursor(4, 7), w.Shift(n))
			w.argsAre(all[n:]...)
			if n+m > 4 {
				w.wants("Shift", w.Shift(m), api.ErrArg)
				w.argsAre(all[n:]...)
			} else {
				w.good(w.Shift(m))
				w.argsAre(all[n+m:]...)
			}
			// Where the cursor stands is not changed, be there such an argument or not.
			w.cursorIs(4, 7)
		}
	}
	w := rich(t)
	w.unchanged("a wrong Shift", func() {
		for _, n := range []int{-1, 4, 5, 1000, math.MinInt, math.MaxInt} {
			w.wants("Shift", w.Shift(n), api.ErrArg)
		}
		w.good(w.Shift(0))
	})
	w.good(w.Shift(3), w.Shift(0))
	w.argsAre()
	w.wants("Shift of none", w.Shift(1), api.ErrArg)
}

func TestSetCursor_P10_4(t *testing.T) {
	w := rich(t)
	for _, at := range []int{0, 1, 2, 1001, math.MaxInt} {
		for _, in := range []int{0, 1, 4097, math.MaxInt} {
			w.good(w.SetCursor(at, in))
			w.cursorIs(at, in)
		}
	}
	w.argsAre("a", "", "c")
	w.good(w.SetCursor(2, 3))
	w.unchanged("a wrong SetCursor", func() {
		for _, below := range []int{-1, -2, math.MinInt} {
			for _, other := range []int{below, 0, 1, math.MaxInt} {
				w.wants("SetCursor", w.SetCursor(below, other), api.ErrArg)
				w.wants("SetCursor", w.SetCursor(other, below), api.ErrArg)
			}
		}
	})
}
