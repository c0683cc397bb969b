package handles_test

import (
	"math/rand/v2"
	"slices"
	"strconv"
	"strings"
	"testing"

	"whelk/api"
	"whelk/handles"
)

// model is a second reading of the chapter: handles in one list, made of all that was put and taken; what is told is counted anew each time.
type model struct {
	room, quota int
	files       map[int]*secondFile
	list        []*second
}

// secondFile is a node, from 4 on, that is named once or not any more.
type secondFile struct {
	data  string
	named bool
}

// second is a handle; both ends of a pipe have one queue.
type second struct {
	id, refs, kind int
	node, at       int
	mode           handles.Mode
	text           string
	most           int
	queue          *string
}

func (m *model) find(id int) *second {
	for _, h := range m.list {
		if h.id == id {
			return h
		}
	}
	return nil
}

func (m *model) add(h *second) int {
	h.id, h.refs = 1, 1
	for m.find(h.id) != nil {
		h.id++
	}
	m.list = append(m.list, h)
	return h.id
}

func (m *model) all() []int {
	var out []int
	for _, h := range m.list {
		out = append(out, h.id)
	}
	slices.Sort(out)
	return out
}

// held is how many Files a node has.
func (m *model) held(node int) int {
	n := 0
	for _, h := range m.list {
		if h.kind == handles.File && h.node == node {
			n++
		}
	}
	return n
}

// queues are those of pipes with an end.
func (m *model) queues() []*string {
	var out []*string
	for _, h := range m.list {
		if h.queue != nil && !slices.Contains(out, h.queue) {
			out = append(out, h.queue)
		}
	}
	return out
}

// waits is how many bytes all pipes have.
func (m *model) waits() int {
	n := 0
	for _, q := range m.queues() {
		n += len(*q)
	}
	return n
}

// used is how many bytes files have, and the link.
func (m *model) used() int {
	n := len("f4")
	for _, f := range m.files {
		n += len(f.data)
	}
	return n
}

// sweep takes files away that nothing keeps alive.
func (m *model) sweep() {
	for node, f := range m.files {
		if !f.named && m.held(node) == 0 {
			delete(m.files, node)
		}
	}
}

func (m *model) file(node int, mode handles.Mode) (int, api.Errno) {
	switch {
	case node == 1 || node == 2:
		return 0, api.ErrDir
	case node == 3:
		return 0, api.ErrArg
	case m.files[node] == nil:
		return 0, api.ErrNone
	case !mode.Read && !mode.Write:
		return 0, api.ErrArg
	}
	return m.add(&second{kind: handles.File, node: node, mode: mode}), api.OK
}

func (m *model) pipe() (int, int) {
	queue := new(string)
	from := m.add(&second{kind: handles.Reader, queue: queue})
	return from, m.add(&second{kind: handles.Writer, queue: queue})
}

func (m *model) ref(id, more int) api.Errno {
	h := m.find(id)
	if h == nil {
		return api.ErrFd
	}
	h.refs += more
	m.list = slices.DeleteFunc(m.list, func(h *second) bool { return h.refs == 0 })
	m.sweep()
	return api.OK
}

func (m *model) read(id, n int) (string, api.Errno) {
	h := m.find(id)
	switch {
	case h == nil:
		return "", api.ErrFd
	case h.kind == handles.Sink || h.kind == handles.Writer || h.kind == handles.File && !h.mode.Read:
		return "", api.ErrMode
	case n < 0:
		return "", api.ErrArg
	}
	from := h.text
	if h.kind == handles.File {
		from = m.files[h.node].data
	}
	if h.kind == handles.Reader {
		out := (*h.queue)[:min(n, len(*h.queue))]
		*h.queue = (*h.queue)[len(out):]
		return out, api.OK
	}
	out := ""
	for ; n > 0 && h.at < len(from); n-- {
		out += from[h.at : h.at+1]
		h.at++
	}
	return out, api.OK
}

func (m *model) write(id int, data string) api.Errno {
	h := m.find(id)
	switch {
	case h == nil:
		return api.ErrFd
	case h.kind == handles.Text || h.kind == handles.Reader || h.kind == handles.File && !h.mode.Write:
		return api.ErrMode
	case h.kind == handles.File:
		return m.writeFile(h, data)
	case h.kind == handles.Sink && len(h.text)+len(data) > h.most:
		return api.ErrRoom
	case h.kind == handles.Sink:
		h.text += data
		return api.OK
	case m.waits()+len(data) > m.quota:
		return api.ErrSpill
	}
	*h.queue += data
	return api.OK
}

func (m *model) writeFile(h *second, data string) api.Errno {
	f := m.files[h.node]
	if h.mode.More {
		h.at = len(f.data)
	}
	end := h.at + len(data)
	is := f.data
	if data != "" {
		is += strings.Repeat("\x00", max(0, end-len(is)))
		is = is[:h.at] + data + is[end:]
	}
	switch {
	case end > api.MaxFile:
		return api.ErrBig
	case m.used()+len(is)-len(f.data) > m.room:
		return api.ErrRoom
	}
	f.data, h.at = is, end
	return api.OK
}

func (m *model) seen(id int) (string, api.Errno) {
	h := m.find(id)
	switch {
	case h == nil:
		return "", api.ErrFd
	case h.kind != handles.Sink:
		return "", api.ErrMode
	}
	return h.text, api.OK
}

func (m *model) stat(id int) (handles.Info, api.Errno) {
	h := m.find(id)
	if h == nil {
		return handles.Info{}, api.ErrFd
	}
	at := h.at
	if h.kind == handles.Sink {
		at = len(h.text)
	}
	if h.queue != nil {
		at = len(*h.queue)
	}
	return handles.Info{Kind: h.kind, Refs: h.refs, At: at, Node: h.node, Mode: h.mode}, api.OK
}

// game is calls made up at random, of a world and of its second reading.
type game struct {
	*rand.Rand
	*world
	model *model
	calls []string
	met   map[string]int
}

func newGame(t *testing.T, seed uint64, met map[string]int) *game {
	r := rand.New(rand.NewPCG(7, seed))
	m := &model{room: 5 + r.IntN(60), quota: r.IntN(40), files: map[int]*secondFile{}}
	if r.IntN(4) == 0 {
		m.room = 5000 + r.IntN(5000)
	}
	g := &game{Rand: r, world: newWorld(t, m.room, m.quota), model: m, met: met}
	for range 3 {
		g.makeFile("")
	}
	return g
}

func (g *game) same(what, got, want string) {
	g.t.Helper()
	if got != want {
		g.t.Fatalf("%s\nof room and quota%s: %s: %.300s, not %.300s", strings.Join(g.calls, "\n"), told(g.model.room, g.model.quota), what, got, want)
	}
}

func (g *game) call(name string, words ...string) {
	g.calls = append(g.calls, name+" "+strings.Join(words, " "))
}

// brief is bytes as a word that can be read.
func brief(s string) string {
	if len(s) > 20 {
		return strconv.Quote(s[:20]) + ".." + told(len(s))
	}
	return strconv.Quote(s)
}

// answer holds the last call's answer against the second reading's.
func (g *game) answer(got string, e api.Errno, want string, wrong api.Errno) {
	g.t.Helper()
	g.same("the answer", got+" "+e.Error(), want+" "+wrong.Error())
	name, _, _ := strings.Cut(g.calls[len(g.calls)-1], " ")
	g.met[name+told(int(e))]++
}

// someBytes is some that are not the same again soon; where there is room for them they may be many.
func (g *game) someBytes() string {
	n := g.IntN(9)
	if g.model.room > api.MaxFile && g.IntN(6) == 0 {
		n = 4200 - g.IntN(g.IntN(4200)+1)
	}
	out := make([]byte, n)
	for i := range out {
		out[i] = byte(g.IntN(256))
	}
	return string(out)
}

// id is a handle's number, or that of none.
func (g *game) id() int {
	all := g.model.all()
	if len(all) == 0 || g.IntN(20) == 0 {
		return g.IntN(12) - 1
	}
	return all[g.IntN(len(all))]
}

// makeFile makes a file: its number tells its name.
func (g *game) makeFile(data string) {
	if g.model.used()+len(data) > g.model.room || len(data) > api.MaxFile {
		return
	}
	node := 4
	for g.model.files[node] != nil {
		node++
	}
	g.call("Make", told(node), brief(data))
	n, e := g.f.Make(root, "f"+strconv.Itoa(node), 2, data)
	g.answer(told(n), e, told(node), api.OK)
	g.model.files[node] = &secondFile{data, true}
}

// tree makes, cuts or takes away a file beside the handles.
func (g *game) tree() {
	node := 4 + g.IntN(5)
	f := g.model.files[node]
	switch g.IntN(4) {
	case 0:
		g.makeFile(g.someBytes())
	case 1:
		if f != nil {
			size := g.IntN(len(f.data) + 1)
			g.call("Cut", told(node, size))
			g.answer("", g.f.Cut(node, size), "", api.OK)
			f.data = f.data[:size]
		}
	case 2:
		if f != nil && f.named {
			g.call("Remove", told(node))
			g.answer("", g.f.Remove(root, "f"+strconv.Itoa(node)), "", api.OK)
			f.named = false
			g.model.sweep()
		}
	}
}

// open opens one, of whatever kind.
func (g *game) open() {
	switch g.IntN(4) {
	case 0:
		s := g.someBytes()
		g.call("Text", brief(s))
		id, e := g.Text(s)
		g.answer(told(id), e, told(g.model.add(&second{kind: handles.Text, text: s})), api.OK)
	case 1:
		most := g.IntN(30)
		g.call("Sink", told(most))
		id, e := g.Sink(most)
		g.answer(told(id), e, told(g.model.add(&second{kind: handles.Sink, most: most})), api.OK)
	case 2:
		g.call("Pipe")
		from, to, e := g.Pipe()
		wantFrom, wantTo := g.model.pipe()
		g.answer(told(from, to), e, told(wantFrom, wantTo), api.OK)
	case 3:
		node, m := g.IntN(10), handles.Mode{Read: g.IntN(3) > 0, Write: g.IntN(3) > 0, More: g.IntN(3) == 0}
		g.call("File", told(node), mode(m))
		id, e := g.File(node, m)
		want, wrong := g.model.file(node, m)
		g.answer(told(id), e, told(want), wrong)
	}
}

// move moves bytes.
func (g *game) move() {
	id := g.id()
	if g.IntN(2) == 0 {
		s := g.someBytes()
		g.call("Write", told(id), brief(s))
		g.answer("", g.Write(id, s), "", g.model.write(id, s))
		return
	}
	n := g.IntN(10) - 1
	if g.IntN(25) == 0 {
		n = g.IntN(5000)
	}
	g.call("Read", told(id, n))
	s, e := g.Read(id, n)
	want, wrong := g.model.read(id, n)
	g.answer(strconv.Quote(s), e, strconv.Quote(want), wrong)
}

// step makes up a call, and does it of both.
func (g *game) step() {
	switch kind := g.IntN(20); {
	case kind < 3:
		g.open()
	case kind < 5:
		g.tree()
	case kind < 7:
		id := g.id()
		g.call("Ref", told(id))
		g.answer("", g.Ref(id), "", g.model.ref(id, 1))
	case kind < 10:
		id := g.id()
		g.call("Unref", told(id))
		g.answer("", g.Unref(id), "", g.model.ref(id, -1))
	default:
		g.move()
	}
}

// whole is whether both tell the same of all there is.
func (g *game) whole() {
	g.t.Helper()
	g.same("All", told(g.All()...), told(g.model.all()...))
	for id := range len(g.model.list) + 3 {
		got, e := g.Stat(id)
		want, wrong := g.model.stat(id)
		g.same("Stat"+told(id), infoOf(got)+e.Error(), infoOf(want)+wrong.Error())
		s, e := g.Seen(id)
		seen, wrong := g.model.seen(id)
		g.same("Seen"+told(id), strconv.Quote(s)+e.Error(), strconv.Quote(seen)+wrong.Error())
	}
	g.same("buffers, held", told(g.p.Buffers(), g.p.Held()), told(len(g.model.queues()), g.model.waits()))
	many, used := g.f.Used()
	g.same("nodes, bytes", told(many, used), told(3+len(g.model.files), g.model.used()))
	for node, f := range g.model.files {
		i, _ := g.f.Stat(node)
		g.same("the holds of"+told(node), told(i.Holds), told(g.model.held(node)))
		s, _ := g.f.Read(node, 0, api.MaxFile)
		g.same("what stands in"+told(node), strconv.Quote(s), strconv.Quote(f.data))
	}
}

func infoOf(i handles.Info) string {
	return told(i.Kind, i.Refs, i.At, i.Node) + mode(i.Mode)
}

// Whatever is called one behind the other, handles answer and are what the second reading is; nodes are held as often as there are Files of them, buffers open as there are pipes with an end.
func TestSecondReading_P7_4(t *testing.T) {
	met := map[string]int{}
	for seed := range uint64(1500) {
		g := newGame(t, seed, met)
		for range 120 {
			g.step()
			g.whole()
		}
	}
	for name, l := range map[string][]api.Errno{
		"File":  {api.OK, api.ErrNone, api.ErrDir, api.ErrArg},
		"Text":  {api.OK},
		"Sink":  {api.OK},
		"Pipe":  {api.OK},
		"Ref":   {api.OK, api.ErrFd},
		"Unref": {api.OK, api.ErrFd},
		"Read":  {api.OK, api.ErrFd, api.ErrMode, api.ErrArg},
		"Write": {api.OK, api.ErrFd, api.ErrMode, api.ErrBig, api.ErrRoom, api.ErrSpill},
	} {
		for _, e := range l {
			if met[name+told(int(e))] == 0 {
				t.Errorf("no %s answered %v", name, e)
			}
		}
	}
}

// When all refs are gone, nothing is held, and no buffer is open.
func TestAllGone_P7_4(t *testing.T) {
	for seed := range uint64(300) {
		g := newGame(t, seed+10000, map[string]int{})
		for range 150 {
			g.step()
		}
		for _, id := range g.All() {
			for i, e := g.Stat(id); e == api.OK; i, e = g.Stat(id) {
				g.same("what Stat tells has refs", told(min(i.Refs, 1)), told(1))
				g.Unref(id)
				g.model.ref(id, -1)
			}
		}
		g.all()
		g.whole()
		if g.p.Buffers() != 0 || g.p.Held() != 0 || g.p.Chunks() != 0 {
			t.Fatal(g.p.Buffers(), g.p.Held(), g.p.Chunks())
		}
	}
}

// What is read of a File or a Text, piece by piece, is what stands in it, whatever is done with other handles.
func TestReadIsAll_P7_4(t *testing.T) {
	for seed := range uint64(300) {
		g := newGame(t, seed+20000, map[string]int{})
		g.makeFile(g.someBytes())
		g.open()
		data := g.someBytes()
		first, _ := g.Text(data)
		other, _ := g.File(4, reading)
		gotText, gotFile := "", ""
		want, _ := g.f.Read(4, 0, api.MaxFile)
		for range 1500 {
			s, e := g.Read(first, g.IntN(20))
			g.wants("Read of a Text", e, api.OK)
			gotText += s
			s, e = g.Read(other, g.IntN(20))
			g.wants("Read of a File", e, api.OK)
			gotFile += s
		}
		g.same("the Text", strconv.Quote(gotText), strconv.Quote(data))
		g.same("the File", strconv.Quote(gotFile), strconv.Quote(want))
	}
}

// R3: two tables, on two trees and pools, do not know of one another; two on the same ones share these alone.
func TestTablesApart_R3(t *testing.T) {
	a := roomy(t, "xyz")
	b := roomy(t, "xyz")
	a.file(4, both, 1)
	a.pipe(2, 3)
	b.all()
	b.text("b", 1)
	a.writes(1, "A", api.OK)
	b.bytes(4, "xyz")
	h, e := handles.New(a.f, a.p)
	a.wants("New", e, api.OK)
	c := &world{h, t, a.f, a.p}
	c.file(4, reading, 1)
	c.reads(1, 9, "Ayz", api.OK)
	c.pipe(2, 3)
	a.at(1, 1)
	a.holds(4, 2)
	a.buffers(2)
	c.unrefs(1, 2, 3)
	a.all(1, 2, 3)
	a.holds(4, 1)
	a.buffers(1)
}
