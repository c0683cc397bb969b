package nodes

import (
	"slices"

	"whelk/api"
)

// Read: P5.4.
func (f *FS) Read(node, at, n int) (string, api.Errno) {
	b, e := f.leaf(node)
	switch {
	case e != api.OK:
		return "", e
	case at < 0 || n < 0:
		return "", api.ErrArg
	}
	rest := b.data[min(at, len(b.data)):]
	return string(rest[:min(n, len(rest))]), api.OK
}

// Write: P5.4.
func (f *FS) Write(node, at int, data string) api.Errno {
	b, e := f.leaf(node)
	switch {
	case e != api.OK:
		return e
	case b.kind == Link || at < 0:
		return api.ErrArg
	case len(data) > api.MaxFile-at: // of no bytes, too; at+len(data) might wrap round
		return api.ErrBig
	case data == "":
		return api.OK
	}
	if more := at + len(data) - len(b.data); more > 0 {
		if more > f.room-f.used {
			return api.ErrRoom
		}
		b.data = append(b.data, make([]byte, more)...)
		f.used += more
	}
	copy(b.data[at:], data)
	return api.OK
}

// Cut: P5.4.
func (f *FS) Cut(node, size int) api.Errno {
	b, e := f.leaf(node)
	switch {
	case e != api.OK:
		return e
	case b.kind == Link || size < 0 || size > len(b.data):
		return api.ErrArg
	}
	f.used -= len(b.data) - size
	// What is cut off is not kept behind the end.
	b.data = slices.Clone(b.data[:size])
	return api.OK
}
