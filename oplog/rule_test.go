package oplog

import (
	"bytes"
	"encoding/binary"
	"hash/crc32"
	"slices"
	"sort"
	"strings"
	"testing"

	"offshoot/api"
	"offshoot/file"
	"offshoot/op"
)

// The chapter's numbers, written out.
const (
	topRoom    = 1048576
	topFrame   = 65536
	topCompact = 60000
	frameHead  = 8
	firstSize  = 10
)

// ---- the chapter's rules, told another way ----

// framed: bytes as a frame, whatever their number.
func framed(body []byte) []byte {
	b := binary.LittleEndian.AppendUint32(nil, uint32(len(body)))
	b = binary.LittleEndian.AppendUint32(b, crc32.ChecksumIEEE(body))
	return append(b, body...)
}

// begun: the first frame of a replica's log.
func begun(replica int) []byte { return framed([]byte{0, byte(replica)}) }

// encoded: the bytes of right ops.
func encoded(list []api.Op) []byte {
	b, ok := op.EncodeAll(list)
	if !ok {
		panic("ops that aren't right")
	}
	return b
}

// written: a log's bytes, of a replica and frames of ops.
func written(replica int, frames ...[]api.Op) []byte {
	b := begun(replica)
	for _, list := range frames {
		b = append(b, framed(encoded(list))...)
	}
	return b
}

// opened: what Open makes of bytes: a replica, frames, how many bytes are left; false, if they are corrupt.
func opened(b []byte) (replica int, frames [][]api.Op, left int, ok bool) {
	for n := 0; ; n++ {
		rest := b[left:]
		if len(rest) < frameHead {
			return replica, frames, left, n > 0
		}
		count, sum := int(binary.LittleEndian.Uint32(rest)), binary.LittleEndian.Uint32(rest[4:])
		rest = rest[frameHead:]
		if count <= topFrame && count > len(rest) {
			return replica, frames, left, n > 0
		}
		if count > topFrame || crc32.ChecksumIEEE(rest[:count]) != sum {
			return 0, nil, 0, false
		}
		body := rest[:count]
		list, right := op.DecodeAll(body)
		switch {
		case n == 0 && (len(body) != 2 || body[0] != 0 || body[1] > 15):
			return 0, nil, 0, false
		case n == 0:
			replica = int(body[1])
		case !right || len(list) == 0:
			return 0, nil, 0, false
		default:
			frames = append(frames, list)
		}
		left += frameHead + count
	}
}

// compacted: ops in the frames that Compact makes of them.
func compacted(list []api.Op) [][]api.Op {
	var frames [][]api.Op
	for len(list) > 0 {
		more := sort.Search(len(list)-1, func(i int) bool { return len(encoded(list[:i+2])) > topCompact })
		frames = append(frames, list[:more+1])
		list = list[more+1:]
	}
	return frames
}

// appended: what Append answers where there is so much room.
func appended(list []api.Op, room int) api.Errno {
	if len(list) == 0 {
		return api.ErrForm
	}
	for _, o := range list {
		if !op.Right(o) {
			return api.ErrForm
		}
	}
	if n := len(encoded(list)); n > topFrame || n+frameHead > room {
		return api.ErrFull
	}
	return api.OK
}

// ---- ops ----

// source: numbers that look random, the same ones at each run.
func source(seed uint64) func(n int) int {
	return func(n int) int {
		seed = seed*6364136223846793005 + 1442695040888963407
		return int(seed>>33) % n
	}
}

// fold: an op of 7 bytes, while n is below 128.
func fold(n int) api.Op {
	return api.Op{Kind: api.KFold, Id: api.Id{R: 1, N: n}, T: n, Block: api.Id{N: 1}, Flag: n%2 == 0}
}

// folds: some of them, from one number on, up to another one.
func folds(from, to int) []api.Op {
	var list []api.Op
	for n := from; n <= to; n++ {
		list = append(list, fold(n))
	}
	return list
}

// each: a right op of each kind.
func each() []api.Op {
	id := func(r, n int) api.Id { return api.Id{R: r, N: n} }
	char := func(r, n, i int) api.Char { return api.Char{Op: id(r, n), I: i} }
	return []api.Op{
		{Kind: api.KNew, Id: id(0, 1), T: 1, Parent: api.Root, Key: "a\x00b"},
		{Kind: api.KMove, Id: id(15, 1048576), T: 1099511627776, Block: id(0, 1), Parent: api.Trash, Key: strings.Repeat("k", 32)},
		{Kind: api.KInsert, Id: id(2, 3), T: 4, Seg: id(0, 1), Left: char(6, 7, 8), Right: char(9, 10, 63), Text: "te\x00\xffxt"},
		{Kind: api.KDelete, Id: id(2, 4), T: 5, Cuts: []api.Cut{{Op: id(4, 5), From: 6, To: 7}, {Op: id(8, 9), From: 0, To: 64}}},
		{Kind: api.KSplit, Id: id(3, 200), T: 70000, Seg: id(4, 5), Right: char(9, 10, 11), Parent: id(12, 13), Key: "\x08"},
		{Kind: api.KFold, Id: id(1, 2), T: 3, Block: id(0, 1), Flag: true},
	}
}

// typed: an op that types a text; it takes 14 bytes and the text's among others.
func typed(text string) api.Op {
	return api.Op{Kind: api.KInsert, Id: api.Id{R: 1, N: 2}, T: 3, Seg: api.Id{N: 1}, Text: text}
}

// sized: ops whose bytes together are so many (1,000 or more).
func sized(t *testing.T, total int) []api.Op {
	t.Helper()
	count := total/70 + 1
	number := 1
	if count > 127 {
		number = 2
	}
	letters := total - number - 14*count
	var list []api.Op
	for left := count; left > 0; left-- {
		n := letters / left
		letters -= n
		list = append(list, typed(strings.Repeat("x", n)))
	}
	if b := encoded(list); len(b) != total {
		t.Fatalf("%d bytes, not %d", len(b), total)
	}
	return list
}

// wrongOps: ops that aren't right.
func wrongOps() []api.Op {
	list := []api.Op{{}, fold(0), fold(-1), typed(""), typed(strings.Repeat("x", 65)), typed(strings.Repeat("x", 1<<20))}
	more := fold(1)
	more.Text = "x"
	other := fold(1)
	other.Kind = 7
	far := fold(1)
	far.Id.R = 16
	return append(list, more, other, far)
}

// same: are lists of ops the same?
func same(a, b []api.Op) bool { return slices.EqualFunc(a, b, op.Same) }

// ---- files and logs ----

// fileOf: a file of bytes, the first of which are synced.
func fileOf(t *testing.T, b []byte, synced, room int) *file.File {
	t.Helper()
	f, wrong := file.Load(b[:synced], room)
	if wrong != api.OK {
		t.Fatalf("a file of %d bytes in %d: %v", synced, room, wrong)
	}
	if wrong := f.Append(b[synced:]); wrong != api.OK {
		t.Fatalf("a file of %d bytes in %d: %v", len(b), room, wrong)
	}
	return f
}

// has: does a file have these bytes, so many of them synced, and so much room in all?
func has(t *testing.T, f *file.File, b []byte, synced, room int) {
	t.Helper()
	if got := f.Bytes(); !bytes.Equal(got, b) {
		t.Errorf("the file: %d bytes %.60v, not %d bytes %.60v", len(got), got, len(b), b)
	}
	if f.Synced() != synced || f.Size()+f.Room() != room {
		t.Errorf("the file: %d of %d synced, not %d; room for %d, not %d", f.Synced(), f.Size(), synced, f.Size()+f.Room(), room)
	}
}

// tells: does a log tell this?
func tells(t *testing.T, l *Log, replica int, list []api.Op, synced int) {
	t.Helper()
	if l == nil {
		t.Fatal("no log")
	}
	if l.Replica() != replica || l.Count() != len(list) || l.Synced() != synced {
		t.Errorf("Replica %d, Count %d, Synced %d; not %d, %d, %d", l.Replica(), l.Count(), l.Synced(), replica, len(list), synced)
	}
	if got := l.Ops(); !same(got, list) {
		t.Errorf("Ops: %d, not %d", len(got), len(list))
	}
}

// formatted: a new log in a file of some room.
func formatted(t *testing.T, replica, room int) (*file.File, *Log) {
	t.Helper()
	f, wrong := file.New(room)
	if wrong != api.OK {
		t.Fatal(wrong)
	}
	l, wrong := Format(f, replica)
	if l == nil || wrong != api.OK {
		t.Fatalf("Format: %d", int(wrong))
	}
	return f, l
}

// opens: the log of a file, of which Open tells these ops.
func opens(t *testing.T, f *file.File, list []api.Op) *Log {
	t.Helper()
	l, got, wrong := Open(f)
	if l == nil || wrong != api.OK {
		t.Fatalf("Open: %d", int(wrong))
	}
	if !same(got, list) {
		t.Errorf("Open: %d ops, not %d", len(got), len(list))
	}
	return l
}

// corrupt: is a file told to be corrupt, and left as it was?
func corrupt(t *testing.T, what string, f *file.File) {
	t.Helper()
	was, synced, room := f.Bytes(), f.Synced(), f.Size()+f.Room()
	if l, list, wrong := Open(f); l != nil || len(list) != 0 || wrong != api.ErrCorrupt {
		t.Errorf("%s: a log: %v, %d ops, %d", what, l != nil, len(list), int(wrong))
	}
	has(t, f, was, synced, room)
}

// answers: is an error's number as it should be?
func answers(t *testing.T, what string, got, want api.Errno) {
	t.Helper()
	if got != want {
		t.Errorf("%s: %d, not %d", what, int(got), int(want))
	}
}

// puts: appends ops, which are taken.
func puts(t *testing.T, l *Log, lists ...[]api.Op) {
	t.Helper()
	for _, list := range lists {
		if !l.Fits(list) {
			t.Error("Fits: false")
		}
		answers(t, "Append", l.Append(list), api.OK)
	}
}

// refuses: an Append that is refused, of which Fits says so, and which changes nothing.
func refuses(t *testing.T, what string, f *file.File, l *Log, list []api.Op, want api.Errno) {
	t.Helper()
	was, safe, room := f.Bytes(), f.Synced(), f.Size()+f.Room()
	replica, ops, synced := l.Replica(), l.Ops(), l.Synced()
	if l.Fits(list) {
		t.Errorf("%s: Fits: true", what)
	}
	answers(t, what, l.Append(list), want)
	has(t, f, was, safe, room)
	tells(t, l, replica, ops, synced)
}
