package spill_test

import (
	"math/rand/v2"
	"strconv"
	"strings"
	"testing"

	"whelk/api"
	"whelk/spill"
)

// model is a second reading of the chapter: buffers keep all that was appended, and what is told is counted anew each time.
type model struct {
	quota, memory, chunk int
	buffers              []*second
}

type second struct {
	all    string
	gone   int // how many of these bytes were drained
	closed bool
}

func (m *model) held() int {
	n := 0
	for _, b := range m.buffers {
		n += b.left()
	}
	return n
}

// chunks goes from chunk to chunk of each open buffer: whether it was begun, and is not through.
func (m *model) chunks() int {
	n := 0
	for _, b := range m.buffers {
		for from := m.memory; !b.closed && from < len(b.all); from += m.chunk {
			if b.gone < from+m.chunk {
				n++
			}
		}
	}
	return n
}

func (m *model) opened() int {
	n := 0
	for _, b := range m.buffers {
		if !b.closed {
			n++
		}
	}
	return n
}

func (b *second) left() int {
	if b.closed {
		return 0
	}
	return len(b.all) - b.gone
}

func (m *model) put(b *second, data string) api.Errno {
	switch {
	case b.closed:
		return api.ErrFd
	case m.held()+len(data) > m.quota:
		return api.ErrSpill
	}
	b.all += data
	return api.OK
}

func (b *second) get(n int) (string, api.Errno) {
	switch {
	case b.closed:
		return "", api.ErrFd
	case n < 0:
		return "", api.ErrArg
	}
	out := ""
	for ; n > 0 && b.gone < len(b.all); n-- {
		out += b.all[b.gone : b.gone+1]
		b.gone++
	}
	return out, api.OK
}

func (b *second) end() api.Errno {
	if b.closed {
		return api.ErrFd
	}
	b.closed = true
	return api.OK
}

// told is numbers as a text.
func told(l ...int) string {
	out := ""
	for _, n := range l {
		out += " " + strconv.Itoa(n)
	}
	return out
}

// game is calls made up at random, of a pool and of its second reading.
type game struct {
	*rand.Rand
	t     *testing.T
	pool  *spill.Pool
	model *model
	lot   []*spill.Buffer
	out   []string // what was drained of each
	calls []string
	met   map[string]int
}

func newGame(t *testing.T, seed uint64, met map[string]int) *game {
	r := rand.New(rand.NewPCG(6, seed))
	one := func(l ...int) int { return l[r.IntN(len(l))] }
	m := &model{quota: one(0, 1, 9, 40, 300, 1048576), memory: one(0, 0, 1, 2, 5, 64, 65536), chunk: one(1, 2, 3, 7, 128, 65536)}
	return &game{Rand: r, t: t, pool: pool(t, m.quota, m.memory, m.chunk), model: m, met: met}
}

func (g *game) same(what, got, want string) {
	g.t.Helper()
	if got != want {
		g.t.Fatalf("%s\nof a pool%s: %s: %.300s, not %.300s", strings.Join(g.calls, "\n"), told(g.model.quota, g.model.memory, g.model.chunk), what, got, want)
	}
}

// bytes is some that are not the same again soon.
func (g *game) bytes() string {
	n := g.IntN(12)
	if g.IntN(20) == 0 {
		n = g.IntN(200)
	}
	out := make([]byte, n)
	for i := range out {
		out[i] = byte(g.IntN(256))
	}
	return string(out)
}

// call makes up a call, and does it of both.
func (g *game) call() {
	if len(g.lot) == 0 || g.IntN(15) == 0 {
		g.calls = append(g.calls, "Open")
		g.lot = append(g.lot, g.pool.Open())
		g.model.buffers = append(g.model.buffers, &second{})
		g.out = append(g.out, "")
		return
	}
	i := g.IntN(len(g.lot))
	b, s := g.lot[i], g.model.buffers[i]
	switch kind := g.IntN(20); {
	case kind == 0:
		g.calls = append(g.calls, "Close"+told(i))
		g.wrong("Close", b.Close(), s.end())
	case kind < 11:
		data := g.bytes()
		g.calls = append(g.calls, "Append"+told(i)+" "+strconv.Quote(data))
		g.wrong("Append", b.Append(data), g.model.put(s, data))
	default:
		n := g.IntN(14) - 1
		if g.IntN(20) == 0 {
			n = g.IntN(300)
		}
		g.calls = append(g.calls, "Drain"+told(i, n))
		got, e := b.Drain(n)
		want, wrong := s.get(n)
		g.same("what is drained", strconv.Quote(got), strconv.Quote(want))
		g.wrong("Drain", e, wrong)
		g.out[i] += got
	}
}

func (g *game) wrong(name string, got, want api.Errno) {
	g.t.Helper()
	g.same("its error", got.Error(), want.Error())
	g.met[name+told(int(got))]++
}

// all is whether both tell the same of themselves.
func (g *game) all() {
	g.t.Helper()
	g.same("held, chunks, buffers", told(g.pool.Held(), g.pool.Chunks(), g.pool.Buffers()), told(g.model.held(), g.model.chunks(), g.model.opened()))
	for i, b := range g.lot {
		g.same("the length of"+told(i), told(b.Len()), told(g.model.buffers[i].left()))
	}
}

// Whatever is called one behind the other, the pool and its buffers answer and are what the second reading is.
func TestSecondReading_P6_3(t *testing.T) {
	met := map[string]int{}
	for seed := range uint64(1500) {
		g := newGame(t, seed, met)
		for range 150 {
			g.call()
			g.all()
		}
	}
	for name, l := range map[string][]api.Errno{"Append": {api.OK, api.ErrFd, api.ErrSpill}, "Drain": {api.OK, api.ErrFd, api.ErrArg}, "Close": {api.OK, api.ErrFd}} {
		for _, e := range l {
			if met[name+told(int(e))] == 0 {
				t.Errorf("no %s answered %v", name, e)
			}
		}
	}
}

// What is drained is a beginning of what was appended, what is left is Len; behind all nothing is held, and no chunk is used.
func TestBeginnings_P6_3(t *testing.T) {
	for seed := range uint64(300) {
		g := newGame(t, seed+10000, map[string]int{})
		for range 200 {
			g.call()
		}
		for i, b := range g.lot {
			appended := g.model.buffers[i].all
			if !strings.HasPrefix(appended, g.out[i]) {
				g.same("what was drained of"+told(i), strconv.Quote(g.out[i]), "a beginning of "+strconv.Quote(appended))
			}
			if !g.model.buffers[i].closed {
				g.same("what is left of"+told(i), told(b.Len()), told(len(appended)-len(g.out[i])))
				rest, _ := b.Drain(b.Len())
				g.same("all of"+told(i), strconv.Quote(g.out[i]+rest), strconv.Quote(appended))
			}
			b.Close()
		}
		wantsPool(t, "all closed", g.pool, 0, 0, 0)
	}
}

// Buffers do not mind each other: each is as if it were alone.
func TestBuffersApart_P6_3(t *testing.T) {
	for seed := range uint64(200) {
		r := rand.New(rand.NewPCG(63, seed))
		memory, chunk := r.IntN(9), r.IntN(9)+1
		shared := pool(t, 1048576, memory, chunk)
		var lot, alone []*spill.Buffer
		for range 5 {
			lot = append(lot, filled(t, shared))
			alone = append(alone, filled(t, pool(t, 1048576, memory, chunk)))
		}
		for range 100 {
			i, n := r.IntN(5), r.IntN(12)
			if r.IntN(2) == 0 {
				s := text(n + int(seed) + i)[int(seed):]
				wants(t, "Append", lot[i].Append(s), alone[i].Append(s))
				continue
			}
			want, e := alone[i].Drain(n)
			drains(t, lot[i], n, want, e)
			wantsLen(t, "Drain", lot[i], alone[i].Len())
		}
	}
}
