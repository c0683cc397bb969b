package state

import "whelk/api"

// Var is a variable.
type Var struct {
	Value  string
	Set    bool
	Export bool
	Fixed  bool
}

// Get: P10.2.
func (s *State) Get(name string) (string, bool) {
	v := s.Var(name)
	return v.Value, v.Set
}

// Set: P10.2.
func (s *State) Set(name, value string) api.Errno {
	e := s.checkName(name)
	v := s.Var(name)
	switch {
	case e != api.OK:
		return e
	case tooGreat(value):
		return api.ErrBig
	case v.Fixed:
		return api.ErrRead
	}
	return s.Put(name, Var{Value: value, Set: true, Export: v.Export || s.Option(exportsAll)})
}

// Unset: P10.2.
func (s *State) Unset(name string) api.Errno {
	if e := s.checkName(name); e != api.OK {
		return e
	}
	if s.Var(name).Fixed {
		return api.ErrRead
	}
	return s.vars.Delete(name)
}

// Mark: P10.2.
func (s *State) Mark(name string, export, fixed bool) api.Errno {
	v := s.Var(name)
	v.Export = v.Export || export
	v.Fixed = v.Fixed || fixed
	return s.Put(name, v)
}

// Var: P10.2.
func (s *State) Var(name string) Var {
	if s.isNil() {
		return Var{}
	}
	v, _ := s.vars.Get(name)
	return v
}

// Put: P10.2.
func (s *State) Put(name string, v Var) api.Errno {
	if e := s.checkName(name); e != api.OK {
		return e
	}
	if !v.Set {
		v.Value = ""
	}
	if v == (Var{}) {
		return s.vars.Delete(name)
	}
	return s.vars.Set(name, v)
}

// Names: P10.2.
func (s *State) Names() []string {
	if s.isNil() {
		return nil
	}
	return s.vars.Keys()
}

// Environ: P10.2.
func (s *State) Environ() []string {
	var out []string
	for _, name := range s.Names() {
		if v := s.Var(name); v.Export && v.Set {
			out = append(out, name+"="+v.Value)
		}
	}
	return out
}
