package nodes

import (
	"maps"
	"slices"
	"strings"

	"whelk/api"
)

// List: P5.5.
func (f *FS) List(node int) ([]string, api.Errno) {
	b, e := f.dir(node)
	if e != api.OK {
		return nil, e
	}
	return slices.Sorted(maps.Keys(b.names)), api.OK
}

// Stat: P5.5.
func (f *FS) Stat(node int) (Info, api.Errno) {
	b, e := f.body(node)
	if e != api.OK {
		return Info{}, e
	}
	// One of both is nothing.
	size := len(b.data) + len(b.names)
	return Info{Kind: b.kind, Size: size, Names: b.named, Holds: b.holds}, api.OK
}

// Where: P5.5.
func (f *FS) Where(node int) (string, api.Errno) {
	b, e := f.dir(node)
	if e != api.OK {
		return "", e
	}
	if node == root {
		return "/", api.OK
	}
	var names []string
	for ; node != root; node, b = b.parent, f.nodes[b.parent] {
		if b.parent == 0 {
			return "", api.ErrNone
		}
		names = append(names, b.name)
	}
	slices.Reverse(names)
	return "/" + strings.Join(names, "/"), api.OK
}

// Used: P5.5.
func (f *FS) Used() (int, int) {
	if f == nil {
		return 0, 0
	}
	return len(f.nodes), f.used
}

// Show: P5.6.
func (f *FS) Show() string {
	var out strings.Builder
	f.show(&out, root, "")
	return out.String()
}

// show tells what is below a directory of that path.
func (f *FS) show(out *strings.Builder, dir int, path string) {
	names, _ := f.List(dir)
	for _, name := range names {
		node := f.nodes[dir].names[name]
		here := path + "/" + name
		out.WriteString(here)
		b := f.nodes[node]
		switch b.kind {
		case Dir:
			out.WriteString(" /\n")
			f.show(out, node, here)
		case File:
			out.WriteString(" =" + onOneLine(string(b.data)) + "\n")
		case Link:
			out.WriteString(" >" + string(b.data) + "\n")
		}
	}
}

// onOneLine is a file's bytes without line feeds.
func onOneLine(s string) string {
	return strings.ReplaceAll(strings.ReplaceAll(s, `\`, `\\`), "\n", `\n`)
}

// dir is the body of the directory of that number.
func (f *FS) dir(node int) (*body, api.Errno) {
	b, e := f.body(node)
	if e == api.OK && b.kind != Dir {
		return nil, api.ErrNoDir
	}
	return b, e
}
