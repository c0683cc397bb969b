package nodes

import (
	"strings"

	"whelk/api"
)

// Walk: P5.1.
func (f *FS) Walk(from int, path string, follow bool) (int, api.Errno) {
	at, e := f.start(from, path)
	if e != api.OK {
		return 0, e
	}
	return f.walk(at, path, follow)
}

// start is where the walk of a path begins.
func (f *FS) start(from int, path string) (int, api.Errno) {
	if f == nil {
		return 0, api.ErrNil
	}
	if b := f.nodes[from]; b == nil || b.kind != Dir {
		return 0, api.ErrArg
	}
	return begin(from, path)
}

// begin is the directory from which a path, or a link's text, goes on.
func begin(from int, path string) (int, api.Errno) {
	switch {
	case path == "":
		return 0, api.ErrNone
	case len(path) > api.MaxPath:
		return 0, api.ErrBig
	case path[0] == '/':
		return root, api.OK
	}
	return from, api.OK
}

// walk is the node that what is left of a path comes to, from a directory on.
func (f *FS) walk(at int, rest string, follow bool) (int, api.Errno) {
	links := 0
parts:
	for rest != "" {
		// Of a / at the end nothing is left but that: what stands ahead of it must be a directory, too.
		dir := f.nodes[at]
		if dir.kind != Dir {
			return 0, api.ErrNoDir
		}
		var part string
		part, rest = cutPart(rest)
		switch part {
		case "":
			break parts
		case ".":
			continue parts
		case "..":
			if dir.parent == 0 {
				return 0, api.ErrNone
			}
			at = dir.parent
			continue parts
		}
		next, e := dir.find(part)
		if e != api.OK {
			return 0, e
		}
		b := f.nodes[next]
		if b.kind != Link || rest == "" && !follow {
			at = next
			continue parts
		}
		if links == api.MaxLinks {
			return 0, api.ErrLoop
		}
		links++
		text := string(b.data)
		if at, e = begin(at, text); e != api.OK {
			return 0, e
		}
		// What stands behind the link stands behind its text, so a link at the text's end is followed, too.
		rest = text + rest
	}
	return at, api.OK
}

// cutPart is the first part of a path, and what stands behind it, its / and all.
func cutPart(path string) (string, string) {
	path = strings.TrimLeft(path, "/")
	if end := strings.IndexByte(path, '/'); end >= 0 {
		return path[:end], path[end:]
	}
	return path, ""
}

// find is the node that a part which is neither . nor .. names in a directory.
func (b *body) find(part string) (int, api.Errno) {
	if len(part) > api.MaxName || strings.IndexByte(part, 0) >= 0 {
		return 0, api.ErrName
	}
	node, there := b.names[part]
	if !there {
		return 0, api.ErrNone
	}
	return node, api.OK
}

// place is a name in a directory, be it there or not.
type place struct {
	dir   int
	name  string // empty of a path without parts
	slash bool   // whether a / stands behind it
}

// isDir is whether a place names a directory by the place alone.
func (p place) isDir() bool { return p.name == "" || p.name == "." || p.name == ".." }

// place is that of a path's last part: what stands ahead of it is walked.
func (f *FS) place(from int, path string) (place, api.Errno) {
	at, e := f.start(from, path)
	if e != api.OK {
		return place{}, e
	}
	end := len(strings.TrimRight(path, "/"))
	first := strings.LastIndexByte(path[:end], '/') + 1
	// It ends with a /, or is empty: links are followed, and it comes to a directory.
	at, e = f.walk(at, path[:first], true)
	if e != api.OK {
		return place{}, e
	}
	return place{dir: at, name: path[first:end], slash: end < len(path)}, api.OK
}
