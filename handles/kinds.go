package handles

import (
	"strings"

	"whelk/api"
	"whelk/nodes"
	"whelk/spill"
)

// kind is what a handle does; there are five of them.
type kind interface {
	stat() Info // but its refs
	read(n int) (string, api.Errno)
	write(data string) api.Errno
	seen() (string, api.Errno)
	end() // its last ref is gone
}

// unable is a kind that can do nothing: each of the five can do some of it.
type unable struct{}

func (unable) read(int) (string, api.Errno) { return "", api.ErrMode }
func (unable) write(string) api.Errno       { return api.ErrMode }
func (unable) seen() (string, api.Errno)    { return "", api.ErrMode }
func (unable) end()                         {}

// file is an open node, which it holds.
type file struct {
	unable
	fs   *nodes.FS
	node int
	at   int
	mode Mode
}

func (f *file) stat() Info { return Info{Kind: File, At: f.at, Node: f.node, Mode: f.mode} }

func (f *file) read(n int) (string, api.Errno) {
	switch {
	case !f.mode.Read:
		return "", api.ErrMode
	case n < 0:
		return "", api.ErrArg
	}
	s, e := f.fs.Read(f.node, f.at, n)
	f.at += len(s)
	return s, e
}

func (f *file) write(data string) api.Errno {
	if !f.mode.Write {
		return api.ErrMode
	}
	if f.mode.More {
		i, e := f.fs.Stat(f.node)
		if e != api.OK {
			return e
		}
		// Be there an error behind it or not: the promise has it so.
		f.at = i.Size
	}
	e := f.fs.Write(f.node, f.at, data)
	if e == api.OK {
		f.at += len(data)
	}
	return e
}

func (f *file) end() { f.fs.Drop(f.node) }

// text is bytes that are read.
type text struct {
	unable
	bytes string
	at    int
}

func (x *text) stat() Info { return Info{Kind: Text, At: x.at} }

func (x *text) read(n int) (string, api.Errno) {
	if n < 0 {
		return "", api.ErrArg
	}
	rest := x.bytes[x.at:]
	s := rest[:min(n, len(rest))]
	x.at += len(s)
	return strings.Clone(s), api.OK
}

// sink is where bytes come to.
type sink struct {
	unable
	came []byte
	most int
}

func (s *sink) stat() Info { return Info{Kind: Sink, At: len(s.came)} }

func (s *sink) write(data string) api.Errno {
	if len(data) > s.most-len(s.came) {
		return api.ErrRoom
	}
	s.came = append(s.came, data...)
	return api.OK
}

func (s *sink) seen() (string, api.Errno) { return string(s.came), api.OK }

// pipe is what both its ends have.
type pipe struct {
	unable
	buffer *spill.Buffer
	ends   int
}

func (p *pipe) end() {
	p.ends--
	if p.ends == 0 {
		p.buffer.Close()
	}
}

// reader is the end of a pipe that is read.
type reader struct{ *pipe }

func (r reader) stat() Info { return Info{Kind: Reader, At: r.buffer.Len()} }

func (r reader) read(n int) (string, api.Errno) { return r.buffer.Drain(n) }

// writer is the end of a pipe that is written.
type writer struct{ *pipe }

func (w writer) stat() Info { return Info{Kind: Writer, At: w.buffer.Len()} }

func (w writer) write(data string) api.Errno { return w.buffer.Append(data) }
