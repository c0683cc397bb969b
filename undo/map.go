package undo

import (
	"cmp"
	"maps"
	"slices"

	"whelk/api"
)

// Map is keys and values of a log.
type Map[K cmp.Ordered, V any] struct {
	log *Log
	has map[K]V
}

// NewMap: P8.2.
func NewMap[K cmp.Ordered, V any](l *Log) *Map[K, V] {
	return &Map[K, V]{log: l, has: map[K]V{}}
}

// Set: P8.2.
func (m *Map[K, V]) Set(k K, v V) api.Errno {
	if m == nil {
		return api.ErrNil
	}
	if k != k {
		return cmp.Or(m.log.refusal(), api.ErrArg)
	}
	k = oneZero(k)
	if e := m.note(k); e != api.OK {
		return e
	}
	m.has[k] = v
	return api.OK
}

// Delete: P8.2.
func (m *Map[K, V]) Delete(k K) api.Errno {
	if m == nil || m.log.isNil() {
		return api.ErrNil
	}
	if _, there := m.has[k]; !there {
		return api.OK
	}
	if e := m.note(oneZero(k)); e != api.OK {
		return e
	}
	delete(m.has, k)
	return api.OK
}

// Get: P8.2.
func (m *Map[K, V]) Get(k K) (V, bool) {
	if m == nil {
		var none V
		return none, false
	}
	v, there := m.has[k]
	return v, there
}

// Keys: P8.2.
func (m *Map[K, V]) Keys() []K {
	if m == nil {
		return nil
	}
	return slices.Sorted(maps.Keys(m.has))
}

// note notes that k has again what it has now, or is not there.
func (m *Map[K, V]) note(k K) api.Errno {
	v, there := m.has[k]
	return m.log.Note(func() {
		if there {
			m.has[k] = v
		} else {
			delete(m.has, k)
		}
	})
}

// oneZero is k, but of a float's two zeros, which are one key, always the same one: else that which Keys tells would not go back.
func oneZero[K cmp.Ordered](k K) K {
	var zero K
	if k == zero {
		return zero
	}
	return k
}
