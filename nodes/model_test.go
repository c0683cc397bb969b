package nodes_test

import (
	"math/rand/v2"
	"slices"
	"strconv"
	"strings"
	"testing"

	"whelk/api"
	"whelk/nodes"
)

// tree is what a tree can do.
type tree interface {
	Walk(from int, path string, follow bool) (int, api.Errno)
	Make(from int, path string, kind int, text string) (int, api.Errno)
	Name(node, from int, path string) api.Errno
	Remove(from int, path string) api.Errno
	Read(node, at, n int) (string, api.Errno)
	Write(node, at int, data string) api.Errno
	Cut(node, size int) api.Errno
	List(node int) ([]string, api.Errno)
	Stat(node int) (nodes.Info, api.Errno)
	Hold(node int) api.Errno
	Drop(node int) api.Errno
	Where(node int) (string, api.Errno)
	Used() (int, int)
	Show() string
}

// model is a second reading of the chapter. Names stand in one list of all directories; what lives, and is used, is counted anew each time.
type model struct {
	most, room int
	things     map[int]*thing
	names      []entry
}

type thing struct {
	kind, holds int
	text        string
}

type entry struct {
	dir, node int
	name      string
}

// fail is what a model's call is ended by.
type fail struct{ e api.Errno }

func refuse(is bool, e api.Errno) {
	if is {
		panic(fail{e})
	}
}

// caught does what may fail; its error.
func caught(do func()) (e api.Errno) {
	defer func() {
		if r := recover(); r != nil {
			e = r.(fail).e
		}
	}()
	do()
	return api.OK
}

func modelOf(most, room int) *model {
	return &model{most: most, room: room, things: map[int]*thing{root: {kind: nodes.Dir}}}
}

func (m *model) kind(node int) int {
	if x := m.things[node]; x != nil {
		return x.kind
	}
	return 0
}

// in is the node of a name; 0, if it is not there.
func (m *model) in(dir int, name string) int {
	for _, x := range m.names {
		if x.dir == dir && x.name == name {
			return x.node
		}
	}
	return 0
}

// namesOf is the names that name a node.
func (m *model) namesOf(node int) []entry {
	return slices.DeleteFunc(slices.Clone(m.names), func(x entry) bool { return x.node != node })
}

// up is a directory's parent; 0, if it has none.
func (m *model) up(dir int) int {
	if dir == root {
		return root
	}
	for _, x := range m.namesOf(dir) {
		return x.dir
	}
	return 0
}

// parts is a path cut at its rows of /, and whether it ends with one.
func parts(path string) ([]string, bool) {
	l := strings.FieldsFunc(path, func(r rune) bool { return r == '/' })
	return l, strings.HasSuffix(path, "/")
}

// begin is where a path's parts are walked from.
func (m *model) begin(from int, path string) int {
	refuse(m.kind(from) != nodes.Dir, api.ErrArg)
	refuse(path == "", api.ErrNone)
	refuse(len(path) > 256, api.ErrBig)
	if strings.HasPrefix(path, "/") {
		return root
	}
	return from
}

// step is what one part comes to, itself not followed.
func (m *model) step(at int, part string) int {
	refuse(m.kind(at) != nodes.Dir, api.ErrNoDir)
	switch part {
	case ".":
		return at
	case "..":
		refuse(m.up(at) == 0, api.ErrNone)
		return m.up(at)
	}
	refuse(!named(part), api.ErrName)
	node := m.in(at, part)
	refuse(node == 0, api.ErrNone)
	return node
}

func named(s string) bool {
	return s != "" && len(s) <= 32 && !strings.ContainsAny(s, "/\x00") && s != "." && s != ".."
}

// goOn walks parts; a link at the end is followed, if follow says so; links is how many were.
func (m *model) goOn(at int, l []string, follow bool, links *int) int {
	for i, part := range l {
		node := m.step(at, part)
		if m.kind(node) == nodes.Link && (follow || i < len(l)-1) {
			*links++
			refuse(*links > 8, api.ErrLoop)
			node = m.path(at, m.things[node].text, true, links)
		}
		at = node
	}
	return at
}

// path walks a path, or a link's text.
func (m *model) path(from int, path string, follow bool, links *int) int {
	at := m.begin(from, path)
	l, slash := parts(path)
	at = m.goOn(at, l, follow || slash, links)
	refuse(slash && m.kind(at) != nodes.Dir, api.ErrNoDir)
	return at
}

// last walks a path but its last part: the directory, that part (empty, if there is none), and whether a / stands behind it.
func (m *model) last(from int, path string) (int, string, bool) {
	at := m.begin(from, path)
	l, slash := parts(path)
	if len(l) == 0 {
		return at, "", slash
	}
	links := 0
	at = m.goOn(at, l[:len(l)-1], true, &links)
	refuse(m.kind(at) != nodes.Dir, api.ErrNoDir)
	return at, l[len(l)-1], slash
}

// fresh is last, of a name that may be given to a node of that kind.
func (m *model) fresh(from int, path string, kind int) (int, string) {
	dir, part, slash := m.last(from, path)
	refuse(m.up(dir) == 0, api.ErrNone)
	refuse(part == "" || part == "." || part == "..", api.ErrThere)
	refuse(!named(part), api.ErrName)
	refuse(m.in(dir, part) != 0, api.ErrThere)
	refuse(slash && kind != nodes.Dir, api.ErrNoDir)
	return dir, part
}

// thing is a node; refused, if there is none.
func (m *model) thing(node int) *thing {
	x := m.things[node]
	refuse(x == nil, api.ErrNone)
	return x
}

// bytes is a file or a link.
func (m *model) bytes(node int) *thing {
	x := m.thing(node)
	refuse(x.kind == nodes.Dir, api.ErrDir)
	return x
}

// bury takes away what does not live.
func (m *model) bury() {
	for node, x := range m.things {
		if node != root && x.holds == 0 && len(m.namesOf(node)) == 0 {
			delete(m.things, node)
		}
	}
}

func (m *model) Walk(from int, path string, follow bool) (node int, e api.Errno) {
	e = caught(func() { node = m.path(from, path, follow, new(int)) })
	return node, e
}

func (m *model) Make(from int, path string, kind int, text string) (node int, e api.Errno) {
	e = caught(func() {
		refuse(!slices.Contains([]int{nodes.Dir, nodes.File, nodes.Link}, kind), api.ErrArg)
		refuse(kind == nodes.Dir && text != "", api.ErrArg)
		refuse(len(text) > 4096, api.ErrBig)
		dir, name := m.fresh(from, path, kind)
		many, used := m.Used()
		refuse(many+1 > m.most || used+len(text) > m.room, api.ErrRoom)
		for node = 1; m.things[node] != nil; {
			node++
		}
		m.things[node] = &thing{kind: kind, text: text}
		m.names = append(m.names, entry{dir, node, name})
	})
	return node, e
}

func (m *model) Name(node, from int, path string) api.Errno {
	return caught(func() {
		kind := m.bytes(node).kind
		dir, name := m.fresh(from, path, kind)
		m.names = append(m.names, entry{dir, node, name})
	})
}

func (m *model) Remove(from int, path string) api.Errno {
	return caught(func() {
		dir, part, slash := m.last(from, path)
		refuse(part == "" || part == "." || part == "..", api.ErrArg)
		refuse(!named(part), api.ErrName)
		node := m.in(dir, part)
		refuse(node == 0, api.ErrNone)
		refuse(slash && m.kind(node) != nodes.Dir, api.ErrNoDir)
		l, _ := m.List(node)
		refuse(len(l) > 0, api.ErrFull)
		m.names = slices.DeleteFunc(m.names, func(x entry) bool { return x == entry{dir, node, part} })
		m.bury()
	})
}

func (m *model) Read(node, at, n int) (s string, e api.Errno) {
	e = caught(func() {
		x := m.bytes(node)
		refuse(at < 0 || n < 0, api.ErrArg)
		for i := at; i < len(x.text) && i-at < n; i++ {
			s += x.text[i : i+1]
		}
	})
	return s, e
}

func (m *model) Write(node, at int, data string) api.Errno {
	return caught(func() {
		x := m.bytes(node)
		refuse(x.kind == nodes.Link || at < 0, api.ErrArg)
		refuse(at > 4096 || at+len(data) > 4096, api.ErrBig)
		if data == "" {
			return
		}
		now := x.text
		for len(now) < at {
			now += "\x00"
		}
		now = now[:at] + data + now[min(len(now), at+len(data)):]
		_, used := m.Used()
		refuse(used-len(x.text)+len(now) > m.room, api.ErrRoom)
		x.text = now
	})
}

func (m *model) Cut(node, size int) api.Errno {
	return caught(func() {
		x := m.bytes(node)
		refuse(x.kind == nodes.Link || size < 0 || size > len(x.text), api.ErrArg)
		x.text = x.text[:size]
	})
}

func (m *model) List(node int) (l []string, e api.Errno) {
	e = caught(func() {
		refuse(m.thing(node).kind != nodes.Dir, api.ErrNoDir)
		for _, x := range m.names {
			if x.dir == node {
				l = append(l, x.name)
			}
		}
		slices.Sort(l)
	})
	return l, e
}

func (m *model) Stat(node int) (i nodes.Info, e api.Errno) {
	e = caught(func() {
		x := m.thing(node)
		l, _ := m.List(node)
		i = nodes.Info{Kind: x.kind, Size: len(x.text), Names: len(m.namesOf(node)), Holds: x.holds}
		if x.kind == nodes.Dir {
			i.Size = len(l)
		}
	})
	return i, e
}

func (m *model) Hold(node int) api.Errno { return caught(func() { m.thing(node).holds++ }) }

func (m *model) Drop(node int) api.Errno {
	return caught(func() {
		x := m.thing(node)
		refuse(x.holds == 0, api.ErrArg)
		x.holds--
		m.bury()
	})
}

// where is the path of what a directory has, up to its name.
func (m *model) where(dir int) string {
	if dir == root {
		return "/"
	}
	l := m.namesOf(dir)
	refuse(len(l) == 0, api.ErrNone)
	return m.where(l[0].dir) + l[0].name + "/"
}

func (m *model) Where(node int) (s string, e api.Errno) {
	e = caught(func() {
		refuse(m.thing(node).kind != nodes.Dir, api.ErrNoDir)
		s = m.where(node)
		if s != "/" {
			s = strings.TrimSuffix(s, "/")
		}
	})
	return s, e
}

func (m *model) Used() (int, int) {
	used := 0
	for _, x := range m.things {
		used += len(x.text)
	}
	return len(m.things), used
}

// Show sorts all lines by the names that their paths have.
func (m *model) Show() string {
	var lines [][]string
	for _, x := range m.names {
		path := m.where(x.dir) + x.name
		what := " /"
		switch y := m.things[x.node]; y.kind {
		case nodes.File:
			what = " ="
			for _, b := range []byte(y.text) {
				switch b {
				case '\n':
					what += `\n`
				case '\\':
					what += `\\`
				default:
					what += string([]byte{b})
				}
			}
		case nodes.Link:
			what = " >" + y.text
		}
		l, _ := parts(path)
		lines = append(lines, append(l, path+what+"\n"))
	}
	slices.SortFunc(lines, func(a, b []string) int { return slices.Compare(a[:len(a)-1], b[:len(b)-1]) })
	out := ""
	for _, l := range lines {
		out += l[len(l)-1]
	}
	return out
}

// player makes up calls.
type player struct {
	*rand.Rand
	most int
}

func (p player) one(l ...string) string { return l[p.IntN(len(l))] }

// node is a number, mostly of a node that there may be.
func (p player) node() int {
	switch p.IntN(40) {
	case 0:
		return -1
	case 1:
		return p.most + p.IntN(9)
	}
	return p.IntN(min(p.most, 12) + 1)
}

// from is a number of a directory, more often than not.
func (p player) from() int {
	if p.IntN(3) > 0 {
		return root
	}
	return p.node()
}

func (p player) path() string {
	out := p.one("", "", "", "/", "//", "./", "../")
	for i := range p.IntN(4) + 1 {
		if i > 0 {
			out += p.one("/", "/", "/", "//")
		}
		out += p.one("a", "b", "c", "d", "a", "b", "a", "b", ".", "..", "..", "...")
		if p.IntN(60) == 0 {
			out += p.one("\x00", strings.Repeat("x", 31), strings.Repeat("x", 32), strings.Repeat("/", 256))
		}
	}
	if p.IntN(5) == 0 {
		out += p.one("/", "//", "/.", "/..")
	}
	if p.IntN(50) == 0 {
		return ""
	}
	return out
}

func (p player) text(kind int) string {
	switch {
	case p.IntN(100) == 0:
		return strings.Repeat("t", p.IntN(3)+4095)
	case kind == nodes.Link:
		return p.path()
	case kind == nodes.Dir && p.IntN(20) > 0:
		return ""
	}
	return p.one("", "a", "xy", "\n", `\n`, "abcdef", "\x00\xff")
}

// call is a call, and what of it is told: its name, its error, and the rest.
func (p player) call() (string, func(t tree) (string, api.Errno)) {
	node, from, path := p.node(), p.from(), p.path()
	switch p.IntN(12) {
	case 0, 1, 2:
		kind := p.IntN(3) + 1
		if p.IntN(40) == 0 {
			kind = p.IntN(7) - 1
		}
		text := p.text(kind)
		return "Make " + told(from, kind) + strconv.Quote(path) + strconv.Quote(text), func(t tree) (string, api.Errno) {
			n, e := t.Make(from, path, kind, text)
			return told(n), e
		}
	case 3:
		return "Name " + told(node, from) + strconv.Quote(path), func(t tree) (string, api.Errno) { return "", t.Name(node, from, path) }
	case 4:
		return "Remove " + told(from) + strconv.Quote(path), func(t tree) (string, api.Errno) { return "", t.Remove(from, path) }
	case 5:
		return "Hold " + told(node), func(t tree) (string, api.Errno) { return "", t.Hold(node) }
	case 6:
		return "Drop " + told(node), func(t tree) (string, api.Errno) { return "", t.Drop(node) }
	case 7, 8:
		at, data := p.IntN(9)-1, p.text(nodes.File)
		if p.IntN(20) == 0 {
			at = 4090 + p.IntN(10)
		}
		return "Write " + told(node, at) + strconv.Quote(data), func(t tree) (string, api.Errno) { return "", t.Write(node, at, data) }
	case 9:
		size := p.IntN(6) - 1
		return "Cut " + told(node, size), func(t tree) (string, api.Errno) { return "", t.Cut(node, size) }
	case 10:
		at, n := p.IntN(7)-1, p.IntN(7)-1
		return "Read " + told(node, at, n), func(t tree) (string, api.Errno) { return t.Read(node, at, n) }
	}
	follow := p.IntN(2) == 0
	return "Walk " + told(from) + strconv.Quote(path) + strconv.FormatBool(follow), func(t tree) (string, api.Errno) {
		n, e := t.Walk(from, path, follow)
		return told(n), e
	}
}

// Whatever is called one behind the other, the tree answers and is what the second reading is.
func TestSecondReading_P5_7(t *testing.T) {
	met := map[string]int{}
	for seed := range 600 {
		r := rand.New(rand.NewPCG(5, uint64(seed)))
		most := []int{3, 8, 12, 20, 1024}[r.IntN(5)]
		room := []int{0, 9, 40, 5000, 1048576}[r.IntN(5)]
		f, e := nodes.New(most, room)
		if e != api.OK {
			t.Fatal(e)
		}
		m := modelOf(most, room)
		p := player{r, most}
		var calls []string
		is := allOf(m)
		for range 150 {
			name, do := p.call()
			calls = append(calls, name)
			got, e := do(f)
			want, wrong := do(m)
			if got != want || e != wrong {
				t.Fatalf("%s\nof %d, %d: %q, %v; not %q, %v", strings.Join(calls, "\n"), most, room, got, e, want, wrong)
			}
			if e == api.OK { // an error changes nothing
				is = allOf(m)
			}
			if got := allOf(f); got != is {
				t.Fatalf("%s\nof %d, %d: it is\n%s\nnot\n%s", strings.Join(calls, "\n"), most, room, got, is)
			}
			met[name[:strings.IndexByte(name, ' ')]+told(int(e))]++
		}
	}
	everyErrorMet(t, met)
}

// everyErrorMet is whether each call answered each of its errors.
func everyErrorMet(t *testing.T, met map[string]int) {
	t.Helper()
	walked := []api.Errno{api.OK, api.ErrArg, api.ErrNone, api.ErrBig, api.ErrNoDir, api.ErrName, api.ErrLoop}
	for name, l := range map[string][]api.Errno{
		"Walk": walked, "Make": append(slices.Clone(walked), api.ErrThere, api.ErrRoom), "Name": append(slices.Clone(walked), api.ErrDir, api.ErrThere), "Remove": append(slices.Clone(walked), api.ErrFull),
		"Read": {api.OK, api.ErrNone, api.ErrDir, api.ErrArg}, "Write": {api.OK, api.ErrNone, api.ErrDir, api.ErrArg, api.ErrBig, api.ErrRoom}, "Cut": {api.OK, api.ErrNone, api.ErrDir, api.ErrArg},
		"Hold": {api.OK, api.ErrNone}, "Drop": {api.OK, api.ErrNone, api.ErrArg},
	} {
		for _, e := range l {
			if met[name+told(int(e))] == 0 {
				t.Errorf("no %s answered %v", name, e)
			}
		}
	}
}

// What is made is walked to, and what Where tells comes back to it.
func TestMadeIsWalkedTo_P5_7(t *testing.T) {
	for seed := range 300 {
		p := player{rand.New(rand.NewPCG(57, uint64(seed))), 30}
		f, _ := nodes.New(30, 9999)
		for range 60 {
			from, path, kind := p.from(), p.path(), p.IntN(3)+1
			text := p.text(kind)
			n, e := f.Make(from, path, kind, text)
			if e != api.OK {
				continue
			}
			back, e := f.Walk(from, path, false)
			wantsNode(t, path, back, e, n, api.OK)
			bytes, e := f.Read(n, 0, 4096)
			if kind == nodes.Dir {
				where, e := f.Where(n)
				wants(t, "Where", e, api.OK)
				back, e = f.Walk(from, where, false)
				wantsNode(t, where, back, e, n, api.OK)
			} else {
				wantsText(t, "Read", bytes, e, text, api.OK)
			}
			if p.IntN(4) == 0 {
				f.Remove(from, path)
			}
		}
	}
}
