package spill

import (
	"slices"

	"whelk/api"
)

// Buffer is bytes that wait: those from start up to end, counted from its first byte on.
type Buffer struct {
	pool   *Pool // nil of a closed one
	start  int
	end    int
	memory []byte   // the bytes below the pool's memory, from 0 on
	chunks [][]byte // those that are used, the one with the byte start first
}

// Append: P6.2.
func (b *Buffer) Append(data string) api.Errno {
	if e := b.open(); e != api.OK {
		return e
	}
	p := b.pool
	if len(data) > p.quota-p.held {
		return api.ErrSpill
	}
	p.held += len(data)
	for data != "" {
		n := b.put(data)
		b.end += n
		data = data[n:]
	}
	return api.OK
}

// Drain: P6.2.
func (b *Buffer) Drain(n int) (string, api.Errno) {
	e := b.open()
	switch {
	case e != api.OK:
		return "", e
	case n < 0:
		return "", api.ErrArg
	}
	out := make([]byte, min(n, b.Len()))
	for at := 0; at < len(out); {
		at += b.get(out[at:])
	}
	b.pool.held -= len(out)
	return string(out), api.OK
}

// Len: P6.2.
func (b *Buffer) Len() int {
	if b == nil {
		return 0
	}
	return b.end - b.start
}

// Close: P6.2.
func (b *Buffer) Close() api.Errno {
	if e := b.open(); e != api.OK {
		return e
	}
	p := b.pool
	p.buffers--
	p.held -= b.Len()
	p.leave(b.chunks...)
	*b = Buffer{}
	return api.OK
}

// open is what stands against a buffer's being open.
func (b *Buffer) open() api.Errno {
	switch {
	case b == nil:
		return api.ErrNil
	case b.pool == nil:
		return api.ErrFd
	}
	return api.OK
}

// put moves a beginning of data to the end, as much as one stretch (the memory, or a chunk) takes: how much that is.
func (b *Buffer) put(data string) int {
	p := b.pool
	if b.end < p.memory {
		return extend(&b.memory, data, p.memory)
	}
	if (b.end-p.memory)%p.chunk == 0 {
		b.chunks = append(b.chunks, p.take())
	}
	return extend(&b.chunks[len(b.chunks)-1], data, p.chunk)
}

// extend moves a beginning of data behind what a stretch has, till it has most bytes: how much that is.
func extend(stretch *[]byte, data string, most int) int {
	had := len(*stretch)
	more := min(len(data), most-had)
	*stretch = slices.Grow(*stretch, more)[:had+more]
	return copy((*stretch)[had:], data)
}

// get moves a beginning of what is left to out, as much as one stretch has: how much that is. A stretch that is through is left.
func (b *Buffer) get(out []byte) int {
	p := b.pool
	if b.start < p.memory {
		n := copy(out, b.memory[b.start:])
		b.start += n
		if b.start == p.memory {
			b.memory = nil
		}
		return n
	}
	n := copy(out, b.chunks[0][(b.start-p.memory)%p.chunk:])
	b.start += n
	if (b.start-p.memory)%p.chunk == 0 {
		p.leave(b.chunks[0])
		b.chunks = b.chunks[1:]
	}
	return n
}
