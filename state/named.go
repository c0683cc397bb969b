package state

import "whelk/api"

// wording is what an alias stands for, or a trap's action.
type wording struct{ text string }

// Func: P10.3.
func (s *State) Func(name string) (api.Node, bool) {
	if s.isNil() {
		return api.Node{}, false
	}
	return s.funcs.Get(name)
}

// SetFunc: P10.3.
func (s *State) SetFunc(name string, n api.Node) api.Errno {
	if e := s.checkName(name); e != api.OK {
		return e
	}
	return s.funcs.Set(name, n)
}

// UnsetFunc: P10.3.
func (s *State) UnsetFunc(name string) api.Errno {
	if e := s.checkName(name); e != api.OK {
		return e
	}
	if _, there := s.funcs.Get(name); !there {
		return api.ErrNone
	}
	return s.funcs.Delete(name)
}

// Alias: P10.3.
func (s *State) Alias(name string) (string, bool) {
	if s.isNil() {
		return "", false
	}
	w, there := s.aliases.Get(name)
	return w.text, there
}

// SetAlias: P10.3.
func (s *State) SetAlias(name, text string) api.Errno {
	switch {
	case s.isNil():
		return api.ErrNil
	case name == "" || !allOf(name, "_!%,@"):
		return api.ErrName
	case tooGreat(text):
		return api.ErrBig
	}
	return s.aliases.Set(name, wording{text})
}

// Unalias: P10.3.
func (s *State) Unalias(name string) api.Errno {
	if s.isNil() {
		return api.ErrNil
	}
	if _, there := s.aliases.Get(name); !there {
		return api.ErrNone
	}
	return s.aliases.Delete(name)
}

// Aliases: P10.3.
func (s *State) Aliases() []string {
	if s.isNil() {
		return nil
	}
	return s.aliases.Keys()
}

// Trap: P10.3.
func (s *State) Trap(name string) (string, bool) {
	if s.isNil() {
		return "", false
	}
	w, there := s.traps.Get(name)
	return w.text, there
}

// SetTrap: P10.3.
func (s *State) SetTrap(name, action string) api.Errno {
	if e := s.checkTrap(name); e != api.OK {
		return e
	}
	if tooGreat(action) {
		return api.ErrBig
	}
	return s.traps.Set(name, wording{action})
}

// Untrap: P10.3.
func (s *State) Untrap(name string) api.Errno {
	if e := s.checkTrap(name); e != api.OK {
		return e
	}
	return s.traps.Delete(name)
}

// Enter: P10.3.
func (s *State) Enter() api.Errno {
	if s.isNil() {
		return api.ErrNil
	}
	for _, name := range s.traps.Keys() {
		if action, _ := s.Trap(name); action == "" {
			continue
		}
		if e := s.traps.Delete(name); e != api.OK {
			return e
		}
	}
	return api.OK
}

// checkTrap is what stands against the name of a trap.
func (s *State) checkTrap(name string) api.Errno {
	if s.isNil() {
		return api.ErrNil
	}
	switch name {
	case "EXIT", "HUP", "INT", "TERM", "USR1":
		return api.OK
	}
	return api.ErrName
}
