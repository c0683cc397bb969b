package handles_test

import (
	"math"
	"strings"
	"testing"

	"whelk/api"
	"whelk/handles"
)

// What a kind, or a mode, is not there for is ErrMode, ahead of what else is wrong.
func TestModes_P7_3(t *testing.T) {
	w := newWorld(t, 10, 10, "xyz")
	long := strings.Repeat("x", 5000)
	w.file(4, writing, 1)
	w.file(4, more, 2)
	w.sink(5, 3)
	w.pipe(4, 5)
	w.file(4, reading, 6)
	w.file(4, handles.Mode{Read: true, More: true}, 7)
	w.text("abc", 8)
	w.unchanged("ErrMode", func() {
		for _, id := range []int{1, 2, 3, 5} {
			for _, n := range []int{0, 1, 99, -1, math.MinInt, math.MaxInt} {
				w.reads(id, n, "", api.ErrMode)
			}
		}
		for _, id := range []int{6, 7, 8, 4} {
			for _, s := range []string{"", "a", long} {
				w.writes(id, s, api.ErrMode)
			}
		}
	})
	w.unchanged("ErrArg", func() {
		for _, id := range []int{6, 7, 8, 4} {
			for _, n := range []int{-1, -3, math.MinInt} {
				w.reads(id, n, "", api.ErrArg)
			}
		}
	})
	for id, s := range map[int]string{6: "xyz", 7: "xyz", 8: "abc", 4: ""} {
		w.reads(id, math.MaxInt, s, api.OK)
	}
}

func TestReadFile_P7_3(t *testing.T) {
	w := roomy(t, "abcdefgh")
	w.file(4, reading, 1)
	w.file(4, both, 2)
	for _, c := range []struct {
		n    int
		want string
		at   int
	}{{0, "", 0}, {1, "a", 1}, {3, "bcd", 4}, {0, "", 4}, {9, "efgh", 8}, {1, "", 8}, {math.MaxInt, "", 8}} {
		w.reads(1, c.n, c.want, api.OK)
		w.at(1, c.at)
	}
	w.at(2, 0)
	w.reads(2, 8, "abcdefgh", api.OK)
	// What comes behind the place is read; a place behind the end stays.
	w.writes(2, "ij", api.OK)
	w.reads(1, 9, "ij", api.OK)
	w.wants("Cut", w.f.Cut(4, 3), api.OK)
	w.reads(1, 9, "", api.OK)
	w.at(1, 10)
	w.wants("Write", w.f.Write(4, 3, "0123456789"), api.OK)
	w.reads(1, 2, "78", api.OK)
	w.at(1, 12)
}

func TestWriteFile_P7_3(t *testing.T) {
	w := roomy(t, "abcdefgh")
	w.file(4, both, 1)
	w.reads(1, 2, "ab", api.OK)
	w.writes(1, "CD", api.OK)
	w.at(1, 4)
	w.writes(1, "", api.OK)
	w.at(1, 4)
	w.reads(1, 1, "e", api.OK)
	w.writes(1, "FGHIJ", api.OK)
	w.at(1, 10)
	w.bytes(4, "abCDeFGHIJ")
	// Behind the end of a file that was cut there are bytes 0.
	w.wants("Cut", w.f.Cut(4, 1), api.OK)
	w.writes(1, "", api.OK)
	w.bytes(4, "a")
	w.writes(1, "K", api.OK)
	w.at(1, 11)
	w.bytes(4, "a\x00\x00\x00\x00\x00\x00\x00\x00\x00K")
}

// With More its place is the file's end first, wherever that is by now.
func TestWriteMore_P7_3(t *testing.T) {
	w := roomy(t, "abc")
	w.file(4, handles.Mode{Read: true, Write: true, More: true}, 1)
	w.file(4, more, 2)
	w.reads(1, 1, "a", api.OK)
	w.at(1, 1)
	w.writes(1, "d", api.OK)
	w.at(1, 4)
	w.at(2, 0)
	w.writes(2, "ef", api.OK)
	w.at(2, 6)
	w.at(1, 4)
	w.reads(1, 9, "ef", api.OK)
	w.writes(1, "g", api.OK)
	w.writes(2, "", api.OK)
	w.at(2, 7)
	w.bytes(4, "abcdefg")
	w.wants("Cut", w.f.Cut(4, 2), api.OK)
	w.at(1, 7)
	w.writes(1, "", api.OK)
	w.at(1, 2)
	w.writes(2, "h", api.OK)
	w.bytes(4, "abh")
}

// An error of the tree is told: the place stays, but with More it is the file's end.
func TestWriteFileErrors_P7_3(t *testing.T) {
	w := newWorld(t, 4100, 10, strings.Repeat("x", 4090))
	w.file(4, both, 1)
	w.file(4, more, 2)
	w.reads(1, 4088, strings.Repeat("x", 4088), api.OK)
	w.unchanged("ErrBig", func() {
		w.writes(1, "123456789", api.ErrBig)
		w.writes(1, strings.Repeat("y", 10000), api.ErrBig)
	})
	w.at(2, 0)
	w.writes(2, "1234567", api.ErrBig)
	w.at(2, 4090)
	w.writes(2, "123456", api.OK)
	w.at(2, 4096)
	w.writes(2, "7", api.ErrBig)
	w.at(2, 4096)
	w.writes(2, "", api.OK)
	w.bytes(4, strings.Repeat("x", 4090)+"123456")
	// The link has 2 of the bytes that there may be, the file 4096: 2 are left.
	w.f.Make(root, "g", 2, "")
	w.file(5, both, 3)
	w.file(5, more, 4)
	w.unchanged("ErrRoom", func() { w.writes(3, "abc", api.ErrRoom) })
	w.writes(3, "a", api.OK)
	w.at(3, 1)
	w.writes(3, "bc", api.ErrRoom)
	w.at(3, 1)
	w.at(4, 0)
	w.writes(4, "bc", api.ErrRoom)
	w.at(4, 1)
	w.writes(3, "b", api.OK)
	w.bytes(5, "ab")
}

// Somebody else may drop what a handle holds: what the tree says of the node is told, and nothing panics.
func TestNodeIsGone_R1(t *testing.T) {
	w := roomy(t, "xyz")
	w.file(4, both, 1)
	w.file(4, more, 2)
	w.reads(1, 1, "x", api.OK)
	w.f.Remove(root, "f4")
	w.f.Drop(4)
	w.f.Drop(4)
	w.reads(1, 1, "", api.ErrNone)
	w.writes(1, "a", api.ErrNone)
	w.writes(2, "a", api.ErrNone)
	w.reads(1, -1, "", api.ErrArg)
	w.at(1, 1)
	w.at(2, 0)
	if n, e := w.f.Make(root, "e", 1, ""); n != 4 || e != api.OK {
		t.Fatal(n, e)
	}
	w.reads(1, 1, "", api.ErrDir)
	w.writes(1, "a", api.ErrDir)
	w.writes(2, "a", api.ErrDir)
	w.unrefs(1, 2)
	w.all()
	w.holds(4, 0)
}

func TestReadText_P7_3(t *testing.T) {
	w := roomy(t)
	w.text("ab\x00\xffé", 1)
	w.text("", 2)
	for _, c := range []struct {
		n    int
		want string
		at   int
	}{{0, "", 0}, {1, "a", 1}, {3, "b\x00\xff", 4}, {1, "\xc3", 5}, {math.MaxInt, "\xa9", 6}, {5, "", 6}, {0, "", 6}} {
		w.reads(1, c.n, c.want, api.OK)
		w.at(1, c.at)
	}
	w.reads(2, 5, "", api.OK)
	w.at(2, 0)
}

func TestWriteSink_P7_3(t *testing.T) {
	w := roomy(t)
	w.sink(5, 1)
	w.sink(0, 2)
	w.sink(1048576, 3)
	w.unchanged("ErrRoom", func() {
		w.writes(1, "abcdef", api.ErrRoom)
		w.writes(2, "a", api.ErrRoom)
		w.writes(3, strings.Repeat("x", 1048577), api.ErrRoom)
	})
	w.writes(1, "ab", api.OK)
	w.writes(1, "cdef", api.ErrRoom)
	w.sees(1, "ab", api.OK)
	w.writes(1, "cd", api.OK)
	w.writes(1, "e", api.OK)
	w.writes(1, "", api.OK)
	w.writes(1, "f", api.ErrRoom)
	w.sees(1, "abcde", api.OK)
	w.at(1, 5)
	w.writes(2, "", api.OK)
	w.sees(2, "", api.OK)
	w.writes(3, strings.Repeat("x", 1048575), api.OK)
	w.writes(3, "yz", api.ErrRoom)
	w.writes(3, "y", api.OK)
	w.sees(3, strings.Repeat("x", 1048575)+"y", api.OK)
}

func TestPipe_P7_3(t *testing.T) {
	w := newWorld(t, 100, 10)
	w.pipe(1, 2)
	w.pipe(3, 4)
	w.reads(1, 5, "", api.OK)
	w.writes(2, "abc", api.OK)
	w.writes(2, "", api.OK)
	w.writes(2, "def", api.OK)
	w.writes(4, "1234", api.OK)
	w.unchanged("ErrSpill", func() {
		w.writes(2, "g", api.ErrSpill)
		w.writes(4, "5", api.ErrSpill)
		w.writes(4, strings.Repeat("5", 1048577), api.ErrSpill)
	})
	w.reads(1, 0, "", api.OK)
	w.reads(1, 4, "abcd", api.OK)
	w.at(1, 2)
	w.at(2, 2)
	w.writes(4, "56789", api.ErrSpill)
	w.writes(4, "5678", api.OK)
	w.reads(1, math.MaxInt, "ef", api.OK)
	w.reads(1, 1, "", api.OK)
	w.reads(3, math.MaxInt, "12345678", api.OK)
	// What was written is read, though the Writer is gone.
	w.writes(2, "end", api.OK)
	w.unrefs(2)
	w.reads(1, 2, "en", api.OK)
	w.reads(1, 2, "d", api.OK)
	w.reads(1, 2, "", api.OK)
}

// All that has a ref has one handle: its place, its bytes.
func TestRefsShare_P7_3(t *testing.T) {
	w := roomy(t, "abcdef")
	w.file(4, both, 1)
	w.wants("Ref", w.Ref(1), api.OK)
	w.reads(1, 2, "ab", api.OK)
	w.unrefs(1)
	w.writes(1, "C", api.OK)
	w.reads(1, 9, "def", api.OK)
	// Another one of the same node has a place of its own.
	w.file(4, both, 2)
	w.reads(2, 9, "abCdef", api.OK)
}

// Many bytes, one by one, are done in a breath.
func TestManyBytes_Limits(t *testing.T) {
	w := roomy(t)
	const many = 1048576
	w.text(strings.Repeat("x", many), 1)
	w.sink(many, 2)
	w.pipe(3, 4)
	for range many {
		w.reads(1, 1, "x", api.OK)
		w.writes(2, "x", api.OK)
		w.writes(4, "x", api.OK)
	}
	w.reads(1, 1, "", api.OK)
	w.writes(2, "x", api.ErrRoom)
	w.writes(4, "x", api.ErrSpill)
	w.sees(2, strings.Repeat("x", many), api.OK)
	w.reads(3, many, strings.Repeat("x", many), api.OK)
}
