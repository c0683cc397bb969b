package proc

import (
	"whelk/api"
	"whelk/handles"
	"whelk/nodes"
)

// Open: P9.3.
func (p *Proc) Open(fd int, path string, kind int) api.Errno {
	e := p.checkFd(fd)
	switch {
	case e != api.OK:
		return e
	case kind < api.In || kind > api.Both:
		return api.ErrArg
	}
	id, e := p.openFile(path, kind)
	if e != api.OK {
		return e
	}
	return p.change(&p.fds[fd], id, p.unref)
}

// Put: P9.2.
func (p *Proc) Put(fd, id int) api.Errno {
	if e := p.checkFd(fd); e != api.OK {
		return e
	}
	if p.table.Ref(id) != api.OK {
		return api.ErrArg
	}
	return p.change(&p.fds[fd], id, p.unref)
}

// Dup: P9.2.
func (p *Proc) Dup(fd, from int) api.Errno {
	if e := p.checkFd(fd); e != api.OK {
		return e
	}
	id, e := p.find(from)
	if e != api.OK || fd == from {
		return e
	}
	return p.Put(fd, id)
}

// Close: P9.2.
func (p *Proc) Close(fd int) api.Errno {
	if e := p.checkFd(fd); e != api.OK {
		return e
	}
	return p.change(&p.fds[fd], 0, p.unref)
}

// Read: P9.2.
func (p *Proc) Read(fd, n int) (string, api.Errno) {
	id, e := p.find(fd)
	if e != api.OK {
		return "", e
	}
	return p.table.Read(id, n)
}

// Write: P9.2.
func (p *Proc) Write(fd int, data string) api.Errno {
	id, e := p.find(fd)
	if e != api.OK {
		return e
	}
	return p.table.Write(id, data)
}

// Handle: P9.2.
func (p *Proc) Handle(fd int) (int, bool) {
	id, e := p.find(fd)
	return id, e == api.OK
}

// Fds: P9.2.
func (p *Proc) Fds() []int {
	if p.isNil() {
		return nil
	}
	var open []int
	for fd, x := range p.fds {
		if x.value != 0 {
			open = append(open, fd)
		}
	}
	return open
}

// checkFd is what stands against an fd, be it open or not.
func (p *Proc) checkFd(fd int) api.Errno {
	switch {
	case p.isNil():
		return api.ErrNil
	case fd < 0 || fd >= api.MaxFd:
		return api.ErrFd
	}
	return api.OK
}

// find is the handle with which fd is open.
func (p *Proc) find(fd int) (int, api.Errno) {
	if e := p.checkFd(fd); e != api.OK {
		return 0, e
	}
	id := p.fds[fd].value
	if id == 0 {
		return 0, api.ErrFd
	}
	return id, api.OK
}

// openFile is a new handle of the file that a path comes to, which is made if there is none; reading alone makes none.
func (p *Proc) openFile(path string, kind int) (int, api.Errno) {
	node, e := p.fs.Walk(p.dir.value, path, true)
	if e == api.ErrNone && kind != api.In {
		node, e = p.fs.Make(p.dir.value, path, nodes.File, "")
	}
	if e != api.OK {
		return 0, e
	}
	id, e := p.table.File(node, modeOf(kind)) // ErrDir of a directory
	if e == api.OK && kind == api.Out {
		p.fs.Cut(node, 0)
	}
	return id, e
}

// modeOf is what a file is opened for.
func modeOf(kind int) handles.Mode {
	return handles.Mode{
		Read:  kind == api.In || kind == api.Both,
		Write: kind != api.In,
		More:  kind == api.More,
	}
}

// unref gives up a ref of a handle; of what is not open there is none.
func (p *Proc) unref(id int) {
	if id != 0 {
		p.table.Unref(id)
	}
}
