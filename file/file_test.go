package file

import (
	"bytes"
	"math"
	"slices"
	"strings"
	"testing"

	"offshoot/api"
)

// The chapter's bound, written out.
const topRoom = 1048576

// ---- the chapter's rules, told another way ----

// model is a file as two texts: what is synced, and what stands behind it.
type model struct {
	safe, loose string
	room        int
}

func (m *model) append(s string) api.Errno {
	if len(m.safe)+len(m.loose)+len(s) > m.room {
		return api.ErrFull
	}
	m.loose += s
	return api.OK
}

func (m *model) sync() { m.safe, m.loose = m.safe+m.loose, "" }

func (m *model) replace(s string) api.Errno {
	if len(s) > m.room {
		return api.ErrFull
	}
	m.safe, m.loose = s, ""
	return api.OK
}

func (m *model) trim(n int) api.Errno {
	switch {
	case n < 0:
		return api.ErrRange
	case n <= len(m.safe):
		m.safe, m.loose = m.safe[:n], ""
	case n <= len(m.safe)+len(m.loose):
		m.loose = m.loose[:n-len(m.safe)]
	default:
		return api.ErrRange
	}
	return api.OK
}

func (m *model) crash(keep int) {
	for i := range len(m.loose) {
		if i < keep {
			m.safe += m.loose[i : i+1]
		}
	}
	m.loose = ""
}

// ---- helpers ----

// source: numbers that look random, the same ones at each run.
func source(seed uint64) func(n int) int {
	return func(n int) int {
		seed = seed*6364136223846793005 + 1442695040888963407
		return int(seed>>33) % n
	}
}

// made: a file with some synced bytes, some behind them, and so much room in all.
func made(t *testing.T, safe, loose string, room int) *File {
	t.Helper()
	f, wrong := Load([]byte(safe), room)
	if f == nil || wrong != api.OK {
		t.Fatalf("Load of %d bytes in %d: %v", len(safe), room, wrong)
	}
	if wrong := f.Append([]byte(loose)); wrong != api.OK {
		t.Fatalf("Append of %d bytes: %v", len(loose), wrong)
	}
	holds(t, f, safe, loose, room)
	return f
}

// holds: does a file tell these bytes, of which the first ones are synced, and what room they leave?
func holds(t *testing.T, f *File, safe, loose string, room int) {
	t.Helper()
	all := safe + loose
	if got := string(f.Bytes()); got != all {
		t.Errorf("Bytes: %.40q (%d), not %.40q (%d)", got, len(got), all, len(all))
	}
	if f.Size() != len(all) || f.Synced() != len(safe) || f.Room() != room-len(all) {
		t.Errorf("of %.40q and %.40q in %d: Size %d, Synced %d, Room %d", safe, loose, room, f.Size(), f.Synced(), f.Room())
	}
}

// answers: is an error's number as it should be?
func answers(t *testing.T, what string, got, want api.Errno) {
	t.Helper()
	if got != want {
		t.Errorf("%s: %d, not %d", what, int(got), int(want))
	}
}

// refuses: is there no file, and this error?
func refuses(t *testing.T, what string, f *File, got, want api.Errno) {
	t.Helper()
	answers(t, what, got, want)
	if f != nil {
		t.Errorf("%s: a file beside an error", what)
	}
}

// none: the lists without elements.
func none() [][]byte { return [][]byte{nil, {}, make([]byte, 0, 9)} }

// wrongRooms: rooms that no file may have.
func wrongRooms() []int {
	return []int{-1, -2, -topRoom, topRoom + 1, 2 * topRoom, 1 << 31, 1 << 32, 1<<32 + 1, math.MaxInt, math.MinInt, math.MinInt + 1}
}

// ---- P6.1 ----

// P6.1: New answers an empty file of each room from 0 to 2^20.
func TestNew(t *testing.T) {
	for _, room := range []int{0, 1, 2, 7, 255, 256, 65536, topRoom - 1, topRoom} {
		f, wrong := New(room)
		if f == nil || wrong != api.OK {
			t.Fatalf("New(%d): %v", room, wrong)
		}
		holds(t, f, "", "", room)
	}
}

// P6.1: a room that isn't 0 to 2^20 is refused by New and by Load, and by Load ahead of bytes that are too many.
func TestWrongRoom(t *testing.T) {
	for _, room := range wrongRooms() {
		f, wrong := New(room)
		refuses(t, "New", f, wrong, api.ErrRange)
		for _, b := range append(none(), []byte("a"), make([]byte, topRoom), make([]byte, topRoom+2)) {
			f, wrong := Load(b, room)
			refuses(t, "Load", f, wrong, api.ErrRange)
		}
	}
}

// P6.1: Load answers a file with these bytes, all synced, up to just the room.
func TestLoad(t *testing.T) {
	for _, c := range []struct {
		s    string
		room int
	}{
		{"", 0}, {"", 1}, {"", topRoom}, {"a", 1}, {"a", 2}, {"ab", 2}, {"ab", topRoom},
		{"\x00", 1}, {"\x00\xff\x80", 3}, {"a\x00b", 9}, {"\xc3\xa4\n\r", 4},
		{strings.Repeat("z", topRoom-1), topRoom - 1},
		{strings.Repeat("y", topRoom-1), topRoom},
		{strings.Repeat("xw", topRoom/2), topRoom},
	} {
		f, wrong := Load([]byte(c.s), c.room)
		if f == nil || wrong != api.OK {
			t.Fatalf("Load of %d bytes in %d: %v", len(c.s), c.room, wrong)
		}
		holds(t, f, c.s, "", c.room)
		f.Crash(0)
		holds(t, f, c.s, "", c.room)
	}
	for _, b := range none() {
		f, wrong := Load(b, 0)
		answers(t, "Load of no bytes", wrong, api.OK)
		holds(t, f, "", "", 0)
	}
}

// P6.1: bytes that are more than the room are refused by Load.
func TestLoadFull(t *testing.T) {
	for _, c := range [][2]int{{1, 0}, {2, 0}, {2, 1}, {3, 2}, {900, 8}, {topRoom, 0}, {topRoom, topRoom - 1}, {topRoom + 1, topRoom}, {2 * topRoom, topRoom}} {
		f, wrong := Load(make([]byte, c[0]), c[1])
		refuses(t, "Load", f, wrong, api.ErrFull)
	}
}

// ---- P6.2 ----

// P6.2: what is appended stands at the end and isn't synced; just the room is room enough, one more is refused and changes nothing.
func TestAppend(t *testing.T) {
	for _, c := range []struct {
		safe, loose, more string
		room              int
		want              api.Errno
	}{
		{"", "", "", 0, api.OK},
		{"", "", "a", 0, api.ErrFull},
		{"", "", "a", 1, api.OK},
		{"", "", "ab", 1, api.ErrFull},
		{"a", "", "", 1, api.OK},
		{"a", "", "b", 1, api.ErrFull},
		{"", "a", "", 1, api.OK},
		{"", "a", "b", 1, api.ErrFull},
		{"ab", "cd", "efg", 8, api.OK},
		{"ab", "cd", "efgh", 8, api.OK},
		{"ab", "cd", "efghi", 8, api.ErrFull},
		{"ab", "cd", "efghijklmnop", 8, api.ErrFull},
		{"abcdefgh", "", "", 8, api.OK},
		{"", "abcdefgh", "", 8, api.OK},
		{"", "", strings.Repeat("a", topRoom), topRoom, api.OK},
		{"", "", strings.Repeat("a", topRoom+1), topRoom, api.ErrFull},
		{"a", "b", strings.Repeat("c", topRoom-2), topRoom, api.OK},
		{"a", "b", strings.Repeat("c", topRoom-1), topRoom, api.ErrFull},
	} {
		f := made(t, c.safe, c.loose, c.room)
		answers(t, "Append", f.Append([]byte(c.more)), c.want)
		if c.want == api.OK {
			holds(t, f, c.safe, c.loose+c.more, c.room)
		} else {
			holds(t, f, c.safe, c.loose, c.room)
		}
	}
}

// P6.2: behind an Append that was refused there is as much room as there was.
func TestAppendBehindRefused(t *testing.T) {
	f := made(t, "ab", "c", 5)
	answers(t, "Append", f.Append([]byte("xyz")), api.ErrFull)
	answers(t, "Append", f.Append([]byte("de")), api.OK)
	holds(t, f, "ab", "cde", 5)
	answers(t, "Append", f.Append([]byte("f")), api.ErrFull)
	holds(t, f, "ab", "cde", 5)
}

// P6.2: no bytes change nothing by Append, and all by Replace, however they are handed in.
func TestNoBytes(t *testing.T) {
	for _, b := range none() {
		for _, room := range []int{4, 5, topRoom} {
			f := made(t, "ab", "cd", room)
			answers(t, "Append", f.Append(b), api.OK)
			holds(t, f, "ab", "cd", room)
			answers(t, "Replace", f.Replace(b), api.OK)
			holds(t, f, "", "", room)
			answers(t, "Replace", f.Replace(b), api.OK)
			answers(t, "Append", f.Append(b), api.OK)
			holds(t, f, "", "", room)
		}
	}
}

// P6.2: behind a Sync all bytes are synced, and what is appended then isn't.
func TestSync(t *testing.T) {
	f, _ := New(9)
	f.Sync()
	holds(t, f, "", "", 9)
	f.Append([]byte("ab"))
	holds(t, f, "", "ab", 9)
	f.Sync()
	holds(t, f, "ab", "", 9)
	f.Sync()
	holds(t, f, "ab", "", 9)
	f.Append([]byte("c"))
	f.Append([]byte("de"))
	holds(t, f, "ab", "cde", 9)
	f.Sync()
	holds(t, f, "abcde", "", 9)
	f.Crash(0)
	holds(t, f, "abcde", "", 9)
}

// P6.2: what a Replace tells is all there is, and synced; it may have just the room, whatever was there; one more is refused and changes nothing, nor does it sync.
func TestReplace(t *testing.T) {
	for _, c := range []struct {
		safe, loose, all string
		room             int
		want             api.Errno
	}{
		{"", "", "", 0, api.OK},
		{"", "", "a", 0, api.ErrFull},
		{"", "", "a", 1, api.OK},
		{"", "", "ab", 1, api.ErrFull},
		{"a", "", "b", 1, api.OK},
		{"", "a", "b", 1, api.OK},
		{"", "a", "bc", 1, api.ErrFull},
		{"ab", "cd", "x", 8, api.OK},
		{"ab", "cd", "wxyz", 8, api.OK},
		{"ab", "cd", "12345", 8, api.OK},
		{"ab", "cd", "12345678", 8, api.OK},
		{"ab", "cd", "123456789", 8, api.ErrFull},
		{"abcd", "efgh", "12345678", 8, api.OK},
		{"abcd", "efgh", "123456789", 8, api.ErrFull},
		{"abcd", "efgh", "", 8, api.OK},
		{"a", "b", strings.Repeat("c", topRoom), topRoom, api.OK},
		{"a", "b", strings.Repeat("c", topRoom+1), topRoom, api.ErrFull},
	} {
		f := made(t, c.safe, c.loose, c.room)
		answers(t, "Replace", f.Replace([]byte(c.all)), c.want)
		safe, loose := c.all, ""
		if c.want != api.OK {
			safe, loose = c.safe, c.loose
		}
		holds(t, f, safe, loose, c.room)
		f.Crash(0)
		holds(t, f, safe, "", c.room)
	}
}

// P6.2: a Trim leaves the first n bytes; of these as many are synced as were.
func TestTrim(t *testing.T) {
	for _, c := range []struct {
		n           int
		safe, loose string
		want        api.Errno
	}{
		{math.MinInt, "abc", "def", api.ErrRange},
		{-1 << 32, "abc", "def", api.ErrRange},
		{-1, "abc", "def", api.ErrRange},
		{0, "", "", api.OK},
		{1, "a", "", api.OK},
		{2, "ab", "", api.OK},
		{3, "abc", "", api.OK},
		{4, "abc", "d", api.OK},
		{5, "abc", "de", api.OK},
		{6, "abc", "def", api.OK},
		{7, "abc", "def", api.ErrRange},
		{8, "abc", "def", api.ErrRange},
		{9, "abc", "def", api.ErrRange},
		{1<<32 + 2, "abc", "def", api.ErrRange},
		{math.MaxInt, "abc", "def", api.ErrRange},
	} {
		f := made(t, "abc", "def", 8)
		answers(t, "Trim", f.Trim(c.n), c.want)
		holds(t, f, c.safe, c.loose, 8)
		answers(t, "Append", f.Append([]byte("!")), api.OK)
		holds(t, f, c.safe, c.loose+"!", 8)
	}
}

// P6.2: what was trimmed doesn't come back: by no Sync, no Crash, and no bytes behind it.
func TestTrimIsGone(t *testing.T) {
	f := made(t, "abc", "def", 8)
	answers(t, "Trim", f.Trim(2), api.OK)
	answers(t, "Trim", f.Trim(3), api.ErrRange)
	f.Sync()
	holds(t, f, "ab", "", 8)
	f.Crash(4)
	holds(t, f, "ab", "", 8)
	answers(t, "Append", f.Append([]byte("x")), api.OK)
	f.Crash(4)
	holds(t, f, "abx", "", 8)
}

// P6.2: an empty file, one that is synced whole, and one of which nothing is synced are trimmed like any.
func TestTrimEnds(t *testing.T) {
	f, _ := New(3)
	answers(t, "Trim", f.Trim(0), api.OK)
	answers(t, "Trim", f.Trim(1), api.ErrRange)
	answers(t, "Trim", f.Trim(-1), api.ErrRange)
	holds(t, f, "", "", 3)
	f = made(t, "abc", "", 3)
	answers(t, "Trim", f.Trim(4), api.ErrRange)
	answers(t, "Trim", f.Trim(3), api.OK)
	holds(t, f, "abc", "", 3)
	answers(t, "Trim", f.Trim(2), api.OK)
	holds(t, f, "ab", "", 3)
	f = made(t, "", "abc", 3)
	answers(t, "Trim", f.Trim(3), api.OK)
	holds(t, f, "", "abc", 3)
	answers(t, "Trim", f.Trim(1), api.OK)
	holds(t, f, "", "a", 3)
	whole := strings.Repeat("a", topRoom)
	f = made(t, whole, "", topRoom)
	answers(t, "Trim", f.Trim(topRoom+1), api.ErrRange)
	answers(t, "Trim", f.Trim(topRoom), api.OK)
	holds(t, f, whole, "", topRoom)
	answers(t, "Trim", f.Trim(topRoom-1), api.OK)
	holds(t, f, whole[1:], "", topRoom)
}

// ---- P6.3 ----

// P6.3: the chapter's example.
func TestExample(t *testing.T) {
	f, _ := New(10)
	f.Append([]byte("ab"))
	f.Sync()
	f.Append([]byte("cd"))
	f.Crash(1)
	holds(t, f, "abc", "", 10)
}

// P6.3: a Crash leaves what is synced, and of what stands behind it keep bytes, at most what is there, at least none; all is synced then.
func TestCrash(t *testing.T) {
	for _, c := range []struct {
		safe, loose string
		keep        int
		want        string
	}{
		{"abc", "def", math.MinInt, "abc"},
		{"abc", "def", -1 << 32, "abc"},
		{"abc", "def", -4, "abc"},
		{"abc", "def", -1, "abc"},
		{"abc", "def", 0, "abc"},
		{"abc", "def", 1, "abcd"},
		{"abc", "def", 2, "abcde"},
		{"abc", "def", 3, "abcdef"},
		{"abc", "def", 4, "abcdef"},
		{"abc", "def", 6, "abcdef"},
		{"abc", "def", 7, "abcdef"},
		{"abc", "def", 1 << 32, "abcdef"},
		{"abc", "def", math.MaxInt - 3, "abcdef"},
		{"abc", "def", math.MaxInt, "abcdef"},
		{"", "def", -1, ""},
		{"", "def", 0, ""},
		{"", "def", 2, "de"},
		{"", "def", 3, "def"},
		{"", "def", 4, "def"},
		{"abc", "", math.MinInt, "abc"},
		{"abc", "", -1, "abc"},
		{"abc", "", 0, "abc"},
		{"abc", "", 1, "abc"},
		{"abc", "", 3, "abc"},
		{"abc", "", math.MaxInt, "abc"},
		{"", "", -1, ""},
		{"", "", 0, ""},
		{"", "", 1, ""},
		{"", "", math.MaxInt, ""},
	} {
		for _, room := range []int{6, 7, topRoom} {
			f := made(t, c.safe, c.loose, room)
			f.Crash(c.keep)
			holds(t, f, c.want, "", room)
			f.Crash(0)
			holds(t, f, c.want, "", room)
			f.Crash(math.MaxInt)
			holds(t, f, c.want, "", room)
		}
	}
}

// P6.3: what a Crash lost leaves room, and doesn't come back.
func TestCrashLeavesRoom(t *testing.T) {
	f := made(t, "ab", "cdef", 6)
	f.Crash(1)
	answers(t, "Append", f.Append([]byte("wxyz")), api.ErrFull)
	answers(t, "Append", f.Append([]byte("xyz")), api.OK)
	holds(t, f, "abc", "xyz", 6)
	f.Crash(2)
	holds(t, f, "abcxy", "", 6)
	answers(t, "Trim", f.Trim(6), api.ErrRange)
}

// P6.3: a Crash behind a Trim at, below and above what is synced.
func TestCrashBehindTrim(t *testing.T) {
	for n, want := range []string{"", "a", "ab", "abc", "abcd", "abcd", "abcd"} {
		f := made(t, "abc", "def", 6)
		answers(t, "Trim", f.Trim(n), api.OK)
		f.Crash(1)
		holds(t, f, want, "", 6)
	}
}

// ---- P6.4 ----

// P6.4: what is handed in isn't kept: it may be changed behind a call, and what lies behind its length too.
func TestNotKept(t *testing.T) {
	for _, n := range []int{1, 2, 7, 8, 31, 32, 33, 1000, topRoom / 4} {
		room := bytes.Repeat([]byte("a"), n+64)
		spoil := func() {
			for i := range room {
				room[i]++
			}
		}
		f, _ := Load(room[:n], 4*n)
		spoil()
		want := strings.Repeat("a", n)
		holds(t, f, want, "", 4*n)
		f.Append(room[:n])
		spoil()
		loose := strings.Repeat("b", n)
		holds(t, f, want, loose, 4*n)
		f.Append(room[:n])
		spoil()
		loose += strings.Repeat("c", n)
		holds(t, f, want, loose, 4*n)
		f.Replace(room[:n])
		spoil()
		holds(t, f, strings.Repeat("d", n), "", 4*n)
	}
}

// P6.4: what is handed in isn't changed, nor what lies behind its length, by the call and by those behind it.
func TestNotChanged(t *testing.T) {
	hand := func(call func(b []byte) *File) {
		for _, n := range []int{0, 1, 5, 64, 1000} {
			room := bytes.Repeat([]byte("r"), n+100)
			f := call(room[:n])
			for range 3 {
				f.Append([]byte("new"))
				f.Crash(1)
				f.Trim(f.Size() / 2)
				f.Append(bytes.Repeat([]byte("s"), 20))
				f.Sync()
			}
			if string(room) != strings.Repeat("r", n+100) {
				t.Errorf("%d bytes that were handed in are changed", n)
			}
		}
	}
	hand(func(b []byte) *File {
		f, _ := Load(b, topRoom)
		return f
	})
	hand(func(b []byte) *File {
		f, _ := New(topRoom)
		f.Append(b)
		return f
	})
	hand(func(b []byte) *File {
		f := made(t, "abc", "def", topRoom)
		f.Replace(b)
		return f
	})
}

// P6.4: what Bytes answers is new memory, spare room too: no file is changed by it, no other answer, and it isn't changed by what a file does then.
func TestBytesIsNew(t *testing.T) {
	for _, n := range []int{1, 2, 3, 8, 31, 33, 100, 1000} {
		safe, loose := strings.Repeat("a", n), strings.Repeat("b", n)
		f := made(t, safe, loose, 100*n)
		first, second := f.Bytes(), f.Bytes()
		whole := first[:cap(first)]
		for i := range whole {
			whole[i] = '#'
		}
		holds(t, f, safe, loose, 100*n)
		if string(second) != safe+loose {
			t.Error("two answers share memory")
		}
		_ = append(second, "spare"...)
		holds(t, f, safe, loose, 100*n)
		f.Append([]byte("c"))
		f.Trim(1)
		f.Append(bytes.Repeat([]byte("d"), 2*n))
		if string(second) != safe+loose {
			t.Error("an answer is changed by what the file does behind it")
		}
		holds(t, f, safe[:1], strings.Repeat("d", 2*n), 100*n)
	}
}

// P6.4: the bytes of an empty file are a list without elements, however it became empty, and nothing of what was there lies behind it.
func TestBytesOfNone(t *testing.T) {
	f, _ := New(8)
	g := made(t, "abc", "d", 8)
	g.Trim(0)
	h := made(t, "", "abcd", 8)
	h.Crash(0)
	for _, x := range []*File{f, g, h} {
		b := x.Bytes()
		if len(b) != 0 {
			t.Errorf("Bytes: %q", b)
		}
		x.Append([]byte("xy"))
		_ = append(b, "ABCD"...)
		holds(t, x, "", "xy", 8)
	}
}

// P6.4: two files share nothing, though they were made of the same bytes, or one of the other's.
func TestFilesApart(t *testing.T) {
	b := append(make([]byte, 0, 100), "abcd"...)
	f, _ := Load(b, 10)
	g, _ := Load(b, 10)
	h, _ := Load(f.Bytes(), 10)
	f.Append([]byte("1"))
	g.Append([]byte("2"))
	h.Append([]byte("3"))
	f.Trim(2)
	f.Append([]byte("fff"))
	holds(t, f, "ab", "fff", 10)
	holds(t, g, "abcd", "2", 10)
	holds(t, h, "abcd", "3", 10)
	f.Append(f.Bytes())
	holds(t, f, "ab", "fffabfff", 10)
	f.Replace(f.Bytes()[3:])
	holds(t, f, "ffabfff", "", 10)
}

// P6.4: what is asked changes nothing.
func TestAskedTwice(t *testing.T) {
	f := made(t, "abc", "def", 9)
	for range 3 {
		holds(t, f, "abc", "def", 9)
	}
	f.Crash(1)
	for range 3 {
		holds(t, f, "abcd", "", 9)
	}
}

// ---- all of them, by the model ----

// turn: one call of a file and of its model, with the same arguments; are both answers the same?
func turn(t *testing.T, f *File, m *model, pick func(int) int) {
	t.Helper()
	numbers := []int{-1, 0, 1, len(m.safe) - 1, len(m.safe), len(m.safe) + 1, len(m.loose) - 1, len(m.loose), len(m.loose) + 1,
		f.Size() - 1, f.Size(), f.Size() + 1, m.room, m.room + 1, math.MaxInt, math.MinInt, pick(40)}
	n := numbers[pick(len(numbers))]
	b := make([]byte, pick(12))
	if pick(5) == 0 {
		b = make([]byte, max(0, m.room-f.Size()+pick(3)-1))
	}
	for i := range b {
		b[i] = byte(pick(256))
	}
	was := string(b)
	switch pick(8) {
	case 0, 1, 2:
		answers(t, "Append", f.Append(b), m.append(was))
	case 3:
		f.Sync()
		m.sync()
	case 4:
		answers(t, "Replace", f.Replace(b), m.replace(was))
	case 5, 6:
		answers(t, "Trim", f.Trim(n), m.trim(n))
	case 7:
		f.Crash(n)
		m.crash(n)
	}
	if string(b) != was {
		t.Error("what was handed in is changed")
	}
	for i := range b {
		b[i]++
	}
	holds(t, f, m.safe, m.loose, m.room)
}

// P6.1 to P6.4: whatever is called in whatever order, a file is what the chapter's rules make it.
func TestByModel(t *testing.T) {
	pick := source(6)
	for i := range 3000 {
		room := []int{0, 1, 2, 8, 30, 64}[i%6]
		start := make([]byte, pick(room+1))
		f, wrong := Load(start, room)
		if wrong != api.OK {
			t.Fatalf("Load of %d in %d: %v", len(start), room, wrong)
		}
		m := &model{safe: string(start), room: room}
		for range 40 {
			turn(t, f, m, pick)
		}
		if t.Failed() {
			t.Fatalf("at the %d-th row of calls", i)
		}
	}
}

// P6.1, P6.2: which bytes there is room for, for all small numbers.
func TestRoomByNumbers(t *testing.T) {
	for room := range 6 {
		for n := range 8 {
			b := slices.Repeat([]byte("n"), n)
			f, wrong := Load(b, room)
			if (f != nil) != (n <= room) || (wrong == api.OK) != (n <= room) {
				t.Errorf("Load of %d in %d: %v", n, room, wrong)
			}
			for has := range room + 1 {
				f := made(t, "", strings.Repeat("h", has), room)
				if (f.Append(b) == api.OK) != (has+n <= room) {
					t.Errorf("Append of %d to %d in %d", n, has, room)
				}
				if (f.Replace(b) == api.OK) != (n <= room) {
					t.Errorf("Replace of %d by %d in %d", has, n, room)
				}
			}
		}
	}
}

// P1: every call ends and none panics, at any arguments.
func TestAnyArguments(t *testing.T) {
	numbers := []int{math.MinInt, math.MinInt + 1, -1 << 32, -topRoom, -1, 0, 1, 2, topRoom - 1, topRoom, topRoom + 1, 1 << 32, math.MaxInt - 1, math.MaxInt}
	lists := append(none(), []byte("a"), make([]byte, 1000))
	for _, room := range numbers {
		for _, b := range lists {
			New(room)
			f, wrong := Load(b, room)
			if wrong != api.OK {
				continue
			}
			for _, n := range numbers {
				f.Append(b)
				f.Crash(n)
				f.Append(b)
				f.Trim(n)
				f.Append(b)
				f.Sync()
				f.Replace(b)
				f.Append([]byte("end"))
				f.Crash(n)
				if f.Room() < 0 || f.Synced() != f.Size() || len(f.Bytes()) != f.Size() || f.Size()+f.Room() != room {
					t.Errorf("in %d: Size %d, Synced %d, Room %d", room, f.Size(), f.Synced(), f.Room())
				}
			}
		}
	}
}

// P6.2: a file that is written bit by bit to its end takes just its room.
func TestBitByBit(t *testing.T) {
	f, _ := New(topRoom)
	part := bytes.Repeat([]byte("p"), 1024)
	for i := range 1024 {
		answers(t, "Append", f.Append(part), api.OK)
		if i%100 == 0 {
			f.Sync()
		}
	}
	answers(t, "Append", f.Append([]byte("q")), api.ErrFull)
	synced := 1001 * 1024 // the last Sync is behind the part that is told by 1000
	holds(t, f, strings.Repeat("p", synced), strings.Repeat("p", topRoom-synced), topRoom)
}
