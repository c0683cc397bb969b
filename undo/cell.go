package undo

import "whelk/api"

// Cell is a value of a log.
type Cell[V any] struct {
	log   *Log
	value V
}

// NewCell: P8.3.
func NewCell[V any](l *Log, v V) *Cell[V] { return &Cell[V]{log: l, value: v} }

// Set: P8.3.
func (c *Cell[V]) Set(v V) api.Errno {
	if c == nil {
		return api.ErrNil
	}
	had := c.value
	if e := c.log.Note(func() { c.value = had }); e != api.OK {
		return e
	}
	c.value = v
	return api.OK
}

// Get: P8.3.
func (c *Cell[V]) Get() V {
	if c == nil {
		var none V
		return none
	}
	return c.value
}
