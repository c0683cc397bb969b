package state

import (
	"slices"
	"strings"

	"whelk/api"
)

const (
	allOptions = "Caefux" // rising
	exportsAll = 'a'
	mostArgs   = 1000
	firstArg   = 1
)

// given is the arguments and the cursor in them: one value, so that a call which sets both is one note.
type given struct {
	args   []string
	at, in int
}

// Option: P10.4.
func (s *State) Option(o byte) bool { return strings.IndexByte(s.Options(), o) >= 0 }

// SetOption: P10.4.
func (s *State) SetOption(o byte, on bool) api.Errno {
	switch {
	case s.isNil():
		return api.ErrNil
	case strings.IndexByte(allOptions, o) < 0:
		return api.ErrArg
	}
	var out []byte
	for _, x := range []byte(allOptions) {
		if x == o && on || x != o && s.Option(x) {
			out = append(out, x)
		}
	}
	return s.options.Set(string(out))
}

// Options: P10.4.
func (s *State) Options() string {
	if s.isNil() {
		return ""
	}
	return s.options.Get()
}

// Args: P10.4.
func (s *State) Args() []string {
	if s.isNil() {
		return nil
	}
	return slices.Clone(s.given.Get().args)
}

// SetArgs: P10.4.
func (s *State) SetArgs(l []string) api.Errno {
	switch {
	case s.isNil():
		return api.ErrNil
	case len(l) > mostArgs:
		return api.ErrMany
	case tooGreat(l...):
		return api.ErrBig
	}
	return s.given.Set(given{args: slices.Clone(l), at: firstArg})
}

// Shift: P10.4.
func (s *State) Shift(n int) api.Errno {
	if s.isNil() {
		return api.ErrNil
	}
	g := s.given.Get()
	if n < 0 || n > len(g.args) {
		return api.ErrArg
	}
	g.args = g.args[n:] // no copy: notes that go back to what was ahead have the same list, into which nobody writes
	return s.given.Set(g)
}

// Cursor: P10.4.
func (s *State) Cursor() (int, int) {
	if s.isNil() {
		return 0, 0
	}
	g := s.given.Get()
	return g.at, g.in
}

// SetCursor: P10.4.
func (s *State) SetCursor(at, in int) api.Errno {
	switch {
	case s.isNil():
		return api.ErrNil
	case at < 0 || in < 0:
		return api.ErrArg
	}
	g := s.given.Get()
	g.at, g.in = at, in
	return s.given.Set(g)
}
