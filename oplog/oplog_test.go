package oplog

import (
	"bytes"
	"fmt"
	"math"
	"slices"
	"strings"
	"testing"

	"offshoot/api"
	"offshoot/file"
	"offshoot/op"
)

// ---- P7.1: Format ----

// P7.1: a new log is just the first frame, synced, without ops, of each replica from 0 to 15.
func TestFormat(t *testing.T) {
	for replica := range 16 {
		for _, room := range []int{10, 11, 200, topRoom} {
			f, l := formatted(t, replica, room)
			has(t, f, begun(replica), firstSize, room)
			tells(t, l, replica, nil, 0)
		}
	}
	f, _ := formatted(t, 5, 99)
	if want := []byte{2, 0, 0, 0}; !bytes.Equal(f.Bytes()[:4], want) || !bytes.Equal(f.Bytes()[8:], []byte{0, 5}) {
		t.Errorf("the first frame: %v", f.Bytes())
	}
}

// P7.1: what the file had ahead of it is gone, synced or not, and its room counts whole.
func TestFormatAnew(t *testing.T) {
	for _, c := range []struct {
		b            []byte
		synced, room int
	}{
		{[]byte("some bytes that are no log"), 26, 26},
		{[]byte("some bytes that are no log"), 0, 26},
		{[]byte("0123456789"), 10, 10},
		{[]byte("0123456789"), 3, 10},
		{[]byte("01234567890"), 11, 11},
		{[]byte("x"), 0, 10},
		{written(3, folds(1, 3), folds(4, 4)), 20, 200},
		{written(3, folds(1, 3))[:20], 20, 20},
		{begun(3), 10, 10},
	} {
		f := fileOf(t, c.b, c.synced, c.room)
		l, wrong := Format(f, 7)
		answers(t, "Format", wrong, api.OK)
		has(t, f, begun(7), firstSize, c.room)
		tells(t, l, 7, nil, 0)
	}
}

// P7.1: a replica that isn't 0 to 15 is refused, ahead of a file that is too small; the file is left as it was.
func TestFormatRange(t *testing.T) {
	for _, replica := range []int{-1, 16, -2, 17, 127, 128, 255, 256, -16, 1 << 32, 1<<32 + 1, math.MaxInt, math.MinInt} {
		for _, room := range []int{4, 9, 10, 11, topRoom} {
			f := fileOf(t, []byte("abcd"), 2, room)
			l, wrong := Format(f, replica)
			answers(t, "Format", wrong, api.ErrRange)
			if l != nil {
				t.Error("a log beside an error")
			}
			has(t, f, []byte("abcd"), 2, room)
		}
	}
}

// P7.1: a file whose whole room is less than the first frame is refused, and left as it was.
func TestFormatFull(t *testing.T) {
	for room := range firstSize {
		for _, replica := range []int{0, 1, 15} {
			b := []byte("abcdefghij")[:room]
			f := fileOf(t, b, room/2, room)
			l, wrong := Format(f, replica)
			answers(t, "Format", wrong, api.ErrFull)
			if l != nil {
				t.Error("a log beside an error")
			}
			has(t, f, b, room/2, room)
		}
	}
}

// ---- P7.2: Open ----

// P7.2: frames of ops of each kind, one and several, are opened as they were written.
func TestOpen(t *testing.T) {
	for i, frames := range [][][]api.Op{
		nil,
		{folds(1, 1)},
		{each()},
		{folds(1, 2), folds(3, 3), each(), folds(4, 9)},
		{folds(1, 1), folds(1, 1), folds(1, 1)},
		{sized(t, topFrame), folds(1, 1)},
		{sized(t, topFrame), sized(t, topFrame)},
	} {
		b := written(i, frames...)
		for _, room := range []int{len(b), len(b) + 1, topRoom} {
			f := fileOf(t, b, len(b), room)
			all := slices.Concat(frames...)
			l := opens(t, f, all)
			has(t, f, b, len(b), room)
			tells(t, l, i, all, len(all))
		}
	}
}

// P7.2: the first frame alone is a log without ops, of each replica.
func TestOpenFirst(t *testing.T) {
	for replica := range 16 {
		for synced := range firstSize + 1 {
			f := fileOf(t, begun(replica), synced, 10)
			l := opens(t, f, nil)
			has(t, f, begun(replica), synced, 10)
			tells(t, l, replica, nil, 0)
		}
	}
}

// P7.2: no bytes are no log, and so is a first frame that is cut at any of its bytes; nothing is trimmed.
func TestOpenNoFirst(t *testing.T) {
	for n := range firstSize {
		for synced := range n + 1 {
			corrupt(t, fmt.Sprint(n, " bytes"), fileOf(t, begun(4)[:n], synced, 50))
		}
	}
	corrupt(t, "no room", fileOf(t, nil, 0, 0))
	corrupt(t, "more than there is", fileOf(t, append([]byte{0, 0, 1, 0, 0, 0, 0, 0}, begun(1)...), 0, 50))
}

// P7.2: a last frame that is cut at each of its bytes is trimmed away, whether it was synced or not.
func TestOpenCut(t *testing.T) {
	for _, frames := range [][][]api.Op{
		{folds(1, 1)},
		{folds(1, 3), folds(4, 5)},
		{each(), folds(1, 1), each()},
	} {
		last := len(frames) - 1
		whole, left := written(9, frames...), written(9, frames[:last]...)
		all := slices.Concat(frames[:last]...)
		for n := len(left); n < len(whole); n++ {
			for _, synced := range []int{len(left), n, len(left) + (n-len(left))/2} {
				f := fileOf(t, whole[:n], synced, 400)
				l := opens(t, f, all)
				has(t, f, left, len(left), 400)
				tells(t, l, 9, all, len(all))
				puts(t, l, frames[last])
				has(t, f, whole, len(left), 400)
			}
		}
	}
}

// P7.2: a frame of which one bit is turned behind its first four bytes is corrupt, wherever it stands; another bit may make it one that is cut.
func TestOpenTurned(t *testing.T) {
	frames := [][]api.Op{folds(1, 2), each(), folds(3, 3)}
	b := written(6, frames...)
	starts := []int{0, len(written(6)), len(written(6, frames[:1]...)), len(written(6, frames[:2]...))}
	for bit := range 8 * len(b) {
		turned := slices.Clone(b)
		turned[bit/8] ^= 1 << (bit % 8)
		f := fileOf(t, turned, len(b), len(b))
		count := slices.ContainsFunc(starts, func(at int) bool { return bit/8 >= at && bit/8 < at+4 })
		if !count {
			corrupt(t, fmt.Sprint("the bit ", bit), f)
			continue
		}
		holdsOpen(t, turned, len(b))
	}
}

// holdsOpen: does Open make of bytes, so many of them synced, what the chapter's rules make of them?
func holdsOpen(t *testing.T, b []byte, synced int) bool {
	t.Helper()
	replica, frames, left, ok := opened(b)
	f := fileOf(t, b, synced, topRoom)
	if !ok {
		corrupt(t, fmt.Sprintf("%.60v", b), f)
		return false
	}
	all := slices.Concat(frames...)
	l := opens(t, f, all)
	has(t, f, b[:left], min(synced, left), topRoom)
	count := 0
	for at, i := firstSize, 0; i < len(frames); i++ {
		at += frameHead + len(encoded(frames[i]))
		if at <= synced {
			count += len(frames[i])
		}
	}
	tells(t, l, replica, all, count)
	return true
}

// P7.2: a first frame that isn't such as told is corrupt, alone and with right frames behind it.
func TestOpenWrongFirst(t *testing.T) {
	one := encoded(folds(1, 1))
	for what, body := range map[string][]byte{
		"nothing":                       {},
		"no replica":                    {0},
		"no ops told, a replica alone":  {3},
		"ops":                           one,
		"ops and a replica":             append(slices.Clone(one), 3),
		"so many ops, but none":         {1, 3},
		"the replica 16":                {0, 16},
		"the replica 17":                {0, 17},
		"the replica 127":               {0, 127},
		"the replica 128":               {0, 128, 128},
		"a byte more":                   {0, 3, 0},
		"another byte more":             {0, 0, 3},
		"no ops twice":                  {0, 0, 0},
		"a replica told in two bytes":   {0, 128, 3},
		"no ops told in two bytes":      {128, 0, 3},
		"a number that is cut":          {0, 128},
		"a number's byte that is none":  {0, 255},
		"a replica told in seven bytes": {0, 254, 0, 0, 0, 0, 0, 3},
	} {
		b := framed(body)
		for _, behind := range [][]byte{nil, framed(one), begun(3), {1}, framed(one)[:9]} {
			all := slices.Concat(b, behind)
			for _, synced := range []int{0, len(b), len(all)} {
				corrupt(t, what, fileOf(t, all, synced, 200))
			}
		}
	}
}

// P7.2: a later frame without ops, or whose bytes aren't ops, is corrupt: as the last one, with others behind it, and with some that is cut, which isn't trimmed then.
func TestOpenWrongLater(t *testing.T) {
	one := encoded(folds(1, 1))
	wrongs := map[string][]byte{
		"nothing":                 {},
		"no ops":                  {0},
		"a first frame":           {0, 3},
		"more ops than there are": append([]byte{2}, one[1:]...),
		"fewer than there are":    append([]byte{0}, one[1:]...),
		"a byte more":             append(slices.Clone(one), 0),
		"a byte less":             one[:len(one)-1],
		"bytes that are no op":    {1, 3, 1, 2, 3},
		"an op that isn't right":  {1, 7, 7, 1, 2, 3, 0, 1, 1},
		"an op without a number":  {1, 7, 6, 1, 0, 3, 0, 1, 1},
		"a text":                  []byte("some text"),
		"noughts":                 make([]byte, topFrame),
	}
	for what, body := range wrongs {
		for _, ahead := range [][][]api.Op{nil, {folds(1, 2)}, {each(), each()}} {
			for _, behind := range [][]byte{nil, framed(one), {1, 2, 3}, framed(one)[:12]} {
				b := slices.Concat(written(3, ahead...), framed(body), behind)
				corrupt(t, what, fileOf(t, b, len(b)/2, topRoom))
			}
		}
	}
}

// P7.2: a bad frame is corrupt wherever it stands, also where more bytes are told than a frame may have.
func TestOpenBad(t *testing.T) {
	bads := map[string][]byte{
		"another sum":             {0, 0, 0, 0, 1, 0, 0, 0},
		"65,537 bytes told":       {1, 0, 1, 0, 0, 0, 0, 0},
		"as many as can be told":  {255, 255, 255, 255, 0, 0, 0, 0, 5},
		"65,537 bytes that are":   framed(encoded(sized(t, topFrame+1))),
		"another sum of right op": append(framed(encoded(folds(1, 1)))[:8], encoded(folds(2, 2))...),
	}
	for what, bad := range bads {
		corrupt(t, what, fileOf(t, bad, len(bad), topRoom))
		for _, ahead := range [][][]api.Op{nil, {folds(1, 2)}} {
			for _, behind := range [][]byte{nil, framed(encoded(folds(1, 1))), {1, 2, 3}} {
				b := slices.Concat(written(3, ahead...), bad, behind)
				corrupt(t, what, fileOf(t, b, len(b), topRoom))
				corrupt(t, what, fileOf(t, b, 5, topRoom))
			}
		}
	}
	cut := append(written(3, folds(1, 2)), 0, 0, 1, 0, 9, 9, 9, 9, 1)
	f := fileOf(t, cut, len(cut), 100)
	tells(t, opens(t, f, folds(1, 2)), 3, folds(1, 2), 2)
	has(t, f, written(3, folds(1, 2)), len(cut)-9, 100)
}

// P7.2, P7.4: behind Open those ops are synced whose frames are, whole: all of them, where all bytes are.
func TestOpenSynced(t *testing.T) {
	frames := [][]api.Op{folds(1, 2), folds(3, 3), each()}
	b := written(2, frames...)
	all := slices.Concat(frames...)
	ends := []int{len(written(2, frames[:1]...)), len(written(2, frames[:2]...)), len(b)}
	for synced := range len(b) + 1 {
		want := 0
		for i, at := range ends {
			if synced >= at {
				want += len(frames[i])
			}
		}
		for _, behind := range []string{"", "cut"} {
			f := fileOf(t, append(slices.Clone(b), behind...), synced, 200)
			l := opens(t, f, all)
			has(t, f, b, synced, 200)
			tells(t, l, 2, all, want)
			l.Sync()
			tells(t, l, 2, all, len(all))
		}
	}
}

// P7.2: any bytes are opened, or are corrupt, as the chapter's rules tell.
func TestOpenAny(t *testing.T) {
	pick := source(72)
	count := map[bool]int{}
	for range 20000 {
		frames := make([][]api.Op, pick(4))
		for i := range frames {
			frames[i] = folds(1+pick(4), 5+pick(3))
			if pick(3) == 0 {
				frames[i] = each()[pick(6):]
			}
		}
		b := written(pick(16), frames...)
		switch pick(6) {
		case 0:
			b[pick(len(b))] ^= 1 << pick(8)
		case 1:
			b = b[:pick(len(b)+1)]
		case 2:
			for range pick(12) {
				b = append(b, byte(pick(256)>>pick(8)))
			}
		case 3:
			at := pick(len(b))
			b = slices.Delete(b, at, min(len(b), at+pick(9)))
		case 4:
			b = slices.Concat(b, framed(b[pick(len(b)):]))
		}
		count[holdsOpen(t, b, pick(len(b)+1))]++
		if t.Failed() {
			t.FailNow()
		}
	}
	if count[true] < 5000 || count[false] < 2000 {
		t.Errorf("opened and corrupt: %v", count)
	}
}

// ---- P7.3: Append, Fits, Sync ----

// P7.3: what is appended stands at the end as one frame, not synced, until it is; one op and several, of each kind.
func TestAppend(t *testing.T) {
	f, l := formatted(t, 11, 900)
	var frames [][]api.Op
	synced, safe := 0, firstSize
	for i, list := range [][]api.Op{folds(1, 1), each(), folds(2, 9), each()[1:3], folds(1, 1), each()[3:4], folds(10, 20)} {
		puts(t, l, list)
		frames = append(frames, list)
		has(t, f, written(11, frames...), safe, 900)
		tells(t, l, 11, slices.Concat(frames...), synced)
		if i%3 == 1 {
			l.Sync()
			synced, safe = l.Count(), f.Size()
			has(t, f, written(11, frames...), f.Size(), 900)
			tells(t, l, 11, slices.Concat(frames...), synced)
		}
	}
	has(t, f, written(11, frames...), safe, 900)
}

// P7.3: the bytes of an op that is appended, written out.
func TestAppendBytes(t *testing.T) {
	f, l := formatted(t, 0, 27)
	puts(t, l, []api.Op{{Kind: api.KFold, Id: api.Id{R: 1, N: 2}, T: 3, Block: api.Id{N: 1}, Flag: true}})
	if b := f.Bytes(); !bytes.Equal(b[10:14], []byte{9, 0, 0, 0}) || !bytes.Equal(b[18:], []byte{1, 7, 6, 1, 2, 3, 0, 1, 1}) {
		t.Errorf("the frame: %v", b[10:])
	}
}

// P7.3: no ops, and lists with one that isn't right, are refused by Append and Fits, however much room there is.
func TestAppendForm(t *testing.T) {
	for _, room := range []int{27, 28, topRoom} {
		f, l := formatted(t, 1, room)
		puts(t, l, folds(1, 1))
		for _, list := range [][]api.Op{nil, {}, make([]api.Op, 0, 5), folds(1, 5)[:0]} {
			refuses(t, "no ops", f, l, list, api.ErrForm)
		}
		great := sized(t, topFrame+1)
		for _, o := range wrongOps() {
			refuses(t, "a wrong op", f, l, []api.Op{o}, api.ErrForm)
			refuses(t, "a wrong op first", f, l, []api.Op{o, fold(1)}, api.ErrForm)
			refuses(t, "a wrong op last", f, l, append(each(), o), api.ErrForm)
			refuses(t, "a wrong op behind too many bytes", f, l, append(slices.Clone(great), o), api.ErrForm)
		}
	}
}

// P7.3: ops whose bytes together are just 65,536 are a frame; one byte more, and many more, are refused, though the file has room.
func TestAppendMost(t *testing.T) {
	f, l := formatted(t, 1, topRoom)
	for _, size := range []int{topFrame - 1, topFrame} {
		list := sized(t, size)
		was := f.Size()
		puts(t, l, list)
		if f.Size() != was+frameHead+size {
			t.Errorf("%d bytes: the file grew by %d", size, f.Size()-was)
		}
	}
	for _, size := range []int{topFrame + 1, topFrame + 2, 2 * topFrame, topRoom + 1} {
		refuses(t, fmt.Sprint(size, " bytes"), f, l, sized(t, size), api.ErrFull)
	}
	all := append(sized(t, topFrame-1), sized(t, topFrame)...)
	tells(t, l, 1, all, 0)
	tells(t, opens(t, f, all), 1, all, 0)
}

// P7.3: a frame that just fits into the file's room is taken; one byte more is refused, and all that fits is taken behind that.
func TestAppendRoom(t *testing.T) {
	for _, list := range [][]api.Op{folds(1, 1), each(), sized(t, 5000), sized(t, topFrame)} {
		frame := frameHead + len(encoded(list))
		for _, ahead := range [][][]api.Op{nil, {folds(1, 1)}, {each(), each()}} {
			size := len(written(8, ahead...))
			for _, more := range []int{-1, 0, 1} {
				f, l := formatted(t, 8, size+frame+more)
				puts(t, l, ahead...)
				if more < 0 {
					refuses(t, "a byte too few", f, l, list, api.ErrFull)
					continue
				}
				puts(t, l, list)
				has(t, f, written(8, append(slices.Clone(ahead), list)...), firstSize, size+frame+more)
				refuses(t, "full", f, l, list, api.ErrFull)
			}
		}
	}
	f, l := formatted(t, 8, firstSize)
	refuses(t, "no room at all", f, l, folds(1, 1), api.ErrFull)
}

// P7.3: ops that are there already are appended again: a log doesn't hold them against each other.
func TestAppendTwice(t *testing.T) {
	f, l := formatted(t, 0, 200)
	puts(t, l, folds(1, 2), folds(1, 2), []api.Op{fold(1), fold(1)})
	want := []api.Op{fold(1), fold(2), fold(1), fold(2), fold(1), fold(1)}
	tells(t, l, 0, want, 0)
	tells(t, opens(t, f, want), 0, want, 0)
}

// P7.3: Fits changes nothing, and says just what Append would, at all small rooms.
func TestFits(t *testing.T) {
	lists := [][]api.Op{nil, {{}}, folds(1, 1), folds(1, 2), each()[:1], each(), append(each(), api.Op{})}
	for room := firstSize; room < 160; room++ {
		for _, list := range lists {
			f, l := formatted(t, 3, room)
			want := appended(list, room-firstSize)
			if l.Fits(list) != (want == api.OK) {
				t.Errorf("Fits in %d of %d ops: %v", room, len(list), l.Fits(list))
			}
			has(t, f, begun(3), firstSize, room)
			tells(t, l, 3, nil, 0)
			answers(t, "Append", l.Append(list), want)
		}
	}
}

// P7.3: Sync is the file's: all bytes are synced then, and a log without ops has none that are.
func TestSync(t *testing.T) {
	f, l := formatted(t, 3, 100)
	l.Sync()
	tells(t, l, 3, nil, 0)
	puts(t, l, folds(1, 1), folds(2, 3))
	tells(t, l, 3, folds(1, 3), 0)
	l.Sync()
	has(t, f, written(3, folds(1, 1), folds(2, 3)), f.Size(), 100)
	tells(t, l, 3, folds(1, 3), 3)
	l.Sync()
	tells(t, l, 3, folds(1, 3), 3)
	puts(t, l, folds(4, 4))
	tells(t, l, 3, folds(1, 4), 3)
	f.Sync()
	tells(t, l, 3, folds(1, 4), 4)
}

// ---- P7.3: Compact ----

// P7.3: Compact of no ops is the first frame alone, synced.
func TestCompactNone(t *testing.T) {
	for _, room := range []int{firstSize, 11, topRoom} {
		f, l := formatted(t, 14, room)
		answers(t, "Compact", l.Compact(), api.OK)
		has(t, f, begun(14), firstSize, room)
		tells(t, l, 14, nil, 0)
	}
}

// P7.3: Compact makes one frame of many small ones, synced; what is appended then stands behind it.
func TestCompactSmall(t *testing.T) {
	f, l := formatted(t, 4, 3000)
	for _, o := range folds(1, 100) {
		puts(t, l, []api.Op{o})
	}
	tells(t, l, 4, folds(1, 100), 0)
	answers(t, "Compact", l.Compact(), api.OK)
	b := written(4, folds(1, 100))
	has(t, f, b, len(b), 3000)
	tells(t, l, 4, folds(1, 100), 100)
	answers(t, "Compact", l.Compact(), api.OK)
	has(t, f, b, len(b), 3000)
	puts(t, l, each(), folds(1, 1))
	has(t, f, written(4, folds(1, 100), each(), folds(1, 1)), len(b), 3000)
	all := slices.Concat(folds(1, 100), each(), folds(1, 1))
	tells(t, l, 4, all, 100)
	tells(t, opens(t, f, all), 4, all, 100)
	answers(t, "Compact", l.Compact(), api.OK)
	b = written(4, all)
	has(t, f, b, len(b), 3000)
	tells(t, l, 4, all, len(all))
}

// P7.3: ops whose bytes together are at most 60,000 are one frame; with a byte more the last op has a frame of its own.
func TestCompactSize(t *testing.T) {
	for _, size := range []int{topCompact - 1, topCompact, topCompact + 1, topFrame} {
		list := sized(t, size)
		frames := [][]api.Op{list}
		if size == topCompact+1 {
			last := len(list) - 1
			frames = [][]api.Op{list[:last], list[last:]}
		} else if size == topFrame {
			frames = compacted(list)
		}
		want := written(5, frames...)
		for _, each := range []int{len(list), 1, 100} {
			f, l := formatted(t, 5, topRoom)
			for part := range slices.Chunk(list, each) {
				puts(t, l, part)
			}
			answers(t, "Compact", l.Compact(), api.OK)
			has(t, f, want, len(want), topRoom)
			tells(t, l, 5, list, len(list))
			tells(t, opens(t, f, list), 5, list, len(list))
		}
	}
}

// P7.3: a frame takes the ops in order: one that is too great for it begins the next, though a later one would fit.
func TestCompactOrder(t *testing.T) {
	full := sized(t, topCompact-20) // there is room for 20 bytes more
	list := slices.Concat(full, []api.Op{typed("1234567")}, folds(1, 2), sized(t, topCompact))
	frames := compacted(list)
	if len(frames) != 3 || !same(frames[0], full) || len(frames[1]) < 4 {
		t.Fatalf("the frames should be others: %d", len(frames))
	}
	f, l := formatted(t, 5, topRoom)
	puts(t, l, list[:10], list[10:500], list[500:len(full)], list[len(full):len(full)+3], list[len(full)+3:])
	answers(t, "Compact", l.Compact(), api.OK)
	b := written(5, frames...)
	has(t, f, b, len(b), topRoom)
	tells(t, l, 5, list, len(list))
}

// P7.3: a frame of so many ops that their count takes one byte more: it is counted with the others.
func TestCompactCount(t *testing.T) {
	for _, count := range []int{126, 127, 128, 129, 7498, 7499, 7500, 7501} {
		list := slices.Repeat(folds(1, 1), count)
		f, l := formatted(t, 5, topRoom)
		for part := range slices.Chunk(list, 1000) {
			puts(t, l, part)
		}
		answers(t, "Compact", l.Compact(), api.OK)
		b := written(5, compacted(list)...)
		has(t, f, b, len(b), topRoom)
		if frames := compacted(list); (len(frames) == 1) != (count <= 7499) {
			t.Errorf("%d ops: %d frames", count, len(frames))
		}
	}
}

// P7.3: a whole file of ops is written anew in as few frames as may be, and read again.
func TestCompactGreat(t *testing.T) {
	pick := source(73)
	f, l := formatted(t, 15, topRoom)
	var all []api.Op
	for {
		list := slices.Repeat([]api.Op{each()[pick(6)], typed(strings.Repeat("y", 1+pick(64)))}, 1+pick(40))
		if !l.Fits(list) {
			break
		}
		puts(t, l, list)
		all = append(all, list...)
	}
	frames := compacted(all)
	b := written(15, frames...)
	if len(frames) < 16 {
		t.Errorf("%d frames", len(frames))
	}
	answers(t, "Compact", l.Compact(), api.OK)
	has(t, f, b, len(b), topRoom)
	tells(t, l, 15, all, len(all))
	tells(t, opens(t, f, all), 15, all, len(all))
}

// P7.3: where the file has no room for the frames nothing is changed, synced neither; with room for just them it is done.
func TestCompactFull(t *testing.T) {
	list := sized(t, topFrame)
	was, want := written(5, list), written(5, compacted(list)...)
	if len(want) <= len(was) {
		t.Fatalf("%d bytes, then %d", len(was), len(want))
	}
	for room := len(was); room <= len(want)+1; room++ {
		f, l := formatted(t, 5, room)
		puts(t, l, list)
		if room < len(want) {
			for range 2 {
				answers(t, "Compact", l.Compact(), api.ErrFull)
				has(t, f, was, firstSize, room)
				tells(t, l, 5, list, 0)
			}
			l.Sync()
			answers(t, "Compact", l.Compact(), api.ErrFull)
			has(t, f, was, len(was), room)
			tells(t, l, 5, list, len(list))
			continue
		}
		answers(t, "Compact", l.Compact(), api.OK)
		has(t, f, want, len(want), room)
		tells(t, l, 5, list, len(list))
	}
}

// P7.3: a log that was opened is compacted as one that was formatted.
func TestCompactOpened(t *testing.T) {
	b := written(5, folds(1, 1), each(), folds(2, 4))
	f := fileOf(t, append(b, 1, 2, 3), 10, len(b)+3)
	all := slices.Concat(folds(1, 1), each(), folds(2, 4))
	l := opens(t, f, all)
	answers(t, "Compact", l.Compact(), api.OK)
	want := written(5, all)
	has(t, f, want, len(want), len(b)+3)
	tells(t, l, 5, all, len(all))
}

// ---- P7.4: what is told, and memory ----

// P7.4: a log tells what stands in its file: what a crash took isn't told, nor counted, nor written anew.
func TestTellsOfFile(t *testing.T) {
	f, l := formatted(t, 5, 300)
	puts(t, l, folds(1, 2))
	l.Sync()
	puts(t, l, folds(3, 3), each())
	f.Crash(20)
	tells(t, l, 5, folds(1, 3), 3)
	answers(t, "Compact", l.Compact(), api.OK)
	b := written(5, folds(1, 3))
	has(t, f, b, len(b), 300)
	puts(t, l, folds(4, 5))
	f.Crash(0)
	tells(t, l, 5, folds(1, 3), 3)
	puts(t, l, each(), folds(6, 6))
	all := slices.Concat(folds(1, 3), each(), folds(6, 6))
	tells(t, l, 5, all, 3)
	tells(t, opens(t, f, all), 5, all, 3)
	f.Trim(0)
	tells(t, l, 5, nil, 0)
}

// spoil changes ops, and what lies behind their length.
func spoil(list []api.Op) {
	list = list[:cap(list)]
	for i := range list {
		cuts := list[i].Cuts[:cap(list[i].Cuts)]
		for j := range cuts {
			cuts[j] = api.Cut{From: -1}
		}
		list[i] = api.Op{Kind: -1}
	}
}

// copied: ops with memory of their own, and some room behind them.
func copied(list []api.Op) []api.Op {
	out := make([]api.Op, 0, len(list)+3)
	for _, o := range list {
		out = append(out, op.Clone(o))
	}
	return out
}

// P7.4: what is handed in isn't kept: it may be changed behind the call.
func TestNotKept(t *testing.T) {
	f, l := formatted(t, 5, 2000)
	var all []api.Op
	for i := range 6 {
		list := copied(each()[i%4:])
		all = append(all, copied(list)...)
		puts(t, l, list)
		spoil(list)
		tells(t, l, 5, all, 0)
	}
	answers(t, "Compact", l.Compact(), api.OK)
	b := written(5, all)
	has(t, f, b, len(b), 2000)
	tells(t, l, 5, all, len(all))
}

// P7.4: what is handed in isn't changed, nor what lies behind its length, by the call and by those behind it.
func TestNotChanged(t *testing.T) {
	_, l := formatted(t, 5, 2000)
	room := slices.Concat(each(), folds(1, 9))
	was := copied(room)
	for range 4 {
		l.Fits(room[:6])
		l.Append(room[:6])
		l.Append([]api.Op{typed("x")})
		l.Compact()
		l.Append(append(room[:2:2], api.Op{}))
		l.Ops()
		if !same(room, was) {
			t.Fatal("what was handed in is changed")
		}
	}
}

// P7.4: what Ops and Open answer is new memory: no log is changed by it, no other answer, and it isn't changed by what a log does then.
func TestAnswersAreNew(t *testing.T) {
	all := slices.Concat(each(), folds(1, 3), each())
	b := written(5, each(), folds(1, 3), each())
	f := fileOf(t, b, len(b), 2000)
	l, first, _ := Open(f)
	second, third := l.Ops(), l.Ops()
	spoil(first)
	tells(t, l, 5, all, len(all))
	spoil(second)
	tells(t, l, 5, all, len(all))
	if !same(third, all) {
		t.Error("two answers share memory")
	}
	_ = append(third, typed("spare"))
	puts(t, l, folds(7, 9))
	l.Compact()
	l.Append(each())
	f.Crash(0)
	l.Append(folds(4, 4))
	if !same(third, all) {
		t.Error("an answer is changed by what the log does behind it")
	}
	tells(t, l, 5, slices.Concat(all, folds(7, 9), folds(4, 4)), len(all)+3)
}

// P7.4: the lists of one answer share no memory: cuts may grow without changing others.
func TestCutsApart(t *testing.T) {
	_, l := formatted(t, 5, 2000)
	puts(t, l, slices.Repeat(each()[3:4], 3), each()[3:4])
	list := l.Ops()
	_ = append(list[0].Cuts, api.Cut{From: 9})
	list[0].Cuts[0].From = 50
	for _, o := range list[1:] {
		if !op.Same(o, each()[3]) {
			t.Errorf("%+v", o)
		}
	}
	tells(t, l, 5, slices.Repeat(each()[3:4], 4), 0)
}

// P7.4: a log of no ops tells a list without elements, and nothing of what was there.
func TestOpsOfNone(t *testing.T) {
	f, l := formatted(t, 5, 100)
	puts(t, l, folds(1, 2))
	l, wrong := Format(f, 6)
	answers(t, "Format", wrong, api.OK)
	tells(t, l, 6, nil, 0)
	tells(t, opens(t, f, nil), 6, nil, 0)
}

// P7.4: logs in files of their own share nothing.
func TestLogsApart(t *testing.T) {
	b := written(5, folds(1, 2), each())
	all := append(folds(1, 2), each()...)
	f, g := fileOf(t, b, len(b), 500), fileOf(t, b, len(b), 500)
	k, l := opens(t, f, all), opens(t, g, all)
	puts(t, k, folds(3, 3))
	puts(t, l, folds(4, 6))
	answers(t, "Compact", k.Compact(), api.OK)
	tells(t, k, 5, append(slices.Clone(all), folds(3, 3)...), 9)
	tells(t, l, 5, append(slices.Clone(all), folds(4, 6)...), 8)
	has(t, g, written(5, folds(1, 2), each(), folds(4, 6)), len(b), 500)
}

// ---- P7.5: crashes ----

// P7.5: the chapter's examples.
func TestExamples(t *testing.T) {
	f, l := formatted(t, 2, 100)
	puts(t, l, folds(1, 1))
	f.Crash(0)
	tells(t, opens(t, f, nil), 2, nil, 0)
	has(t, f, begun(2), firstSize, 100)

	f, l = formatted(t, 2, 100)
	puts(t, l, folds(1, 1))
	l.Sync()
	f.Crash(0)
	tells(t, opens(t, f, folds(1, 1)), 2, folds(1, 1), 1)
	has(t, f, written(2, folds(1, 1)), 27, 100)
}

// P7.5: crashes that keep nothing, each number of bytes, and all of them: Open tells the first so many frames' ops, all synced ones among them, and all of them are synced then.
func TestCrash(t *testing.T) {
	frames := [][]api.Op{folds(1, 2), each(), folds(3, 3), each()[2:5], folds(4, 9)}
	whole := written(12, frames...)
	for safe := range len(frames) + 1 {
		base := len(written(12, frames[:safe]...))
		for keep := -1; keep <= len(whole)-base+2; keep++ {
			f, l := formatted(t, 12, len(whole))
			puts(t, l, frames[:safe]...)
			l.Sync()
			puts(t, l, frames[safe:]...)
			f.Crash(keep)
			kept := safe
			for kept < len(frames) && len(written(12, frames[:kept+1]...)) <= base+keep {
				kept++
			}
			all := slices.Concat(frames[:kept]...)
			l = opens(t, f, all)
			b := written(12, frames[:kept]...)
			has(t, f, b, len(b), len(whole))
			tells(t, l, 12, all, len(all))
			puts(t, l, frames[kept:]...)
			has(t, f, whole, len(b), len(whole))
		}
	}
}

// P7.5: a crash behind Compact takes only what was appended behind it; a Compact that was refused syncs nothing.
func TestCrashBehindCompact(t *testing.T) {
	f, l := formatted(t, 12, 500)
	puts(t, l, folds(1, 1), each(), folds(2, 3))
	answers(t, "Compact", l.Compact(), api.OK)
	puts(t, l, folds(4, 4))
	f.Crash(16)
	all := slices.Concat(folds(1, 1), each(), folds(2, 3))
	tells(t, opens(t, f, all), 12, all, len(all))

	list := sized(t, topFrame)
	f, l = formatted(t, 12, firstSize+frameHead+topFrame)
	puts(t, l, list)
	answers(t, "Compact", l.Compact(), api.ErrFull)
	f.Crash(0)
	tells(t, opens(t, f, nil), 12, nil, 0)
}

// ---- all of them, by the chapter's rules ----

// model is a log as frames of ops, of which the first ones are synced.
type model struct {
	replica, room, safe int
	frames              [][]api.Op
}

// bytes: the log's, and how many of them are synced.
func (m *model) bytes() ([]byte, int) {
	return written(m.replica, m.frames...), len(written(m.replica, m.frames[:m.safe]...))
}

func (m *model) compact() api.Errno {
	frames := compacted(slices.Concat(m.frames...))
	if len(written(m.replica, frames...)) > m.room {
		return api.ErrFull
	}
	m.frames, m.safe = frames, len(frames)
	return api.OK
}

func (m *model) crash(keep int) {
	b, synced := m.bytes()
	_, m.frames, _, _ = opened(b[:synced+min(max(0, keep), len(b)-synced)])
	m.safe = len(m.frames)
}

// anyOps: a list of ops, right ones most often.
func anyOps(pick func(int) int) []api.Op {
	var list []api.Op
	for range pick(5) {
		list = append(list, each()[pick(6)], fold(1+pick(300)))
	}
	switch pick(12) {
	case 0:
		list = append(list, wrongOps()[pick(9)])
	case 1:
		list = slices.Repeat(append(list, typed(strings.Repeat("z", 1+pick(64)))), 1+pick(400))
	}
	return list
}

// turn: one call of a log and of its model, with the same arguments; the log that there is then.
func turn(t *testing.T, f *file.File, l *Log, m *model, pick func(int) int) *Log {
	t.Helper()
	switch pick(9) {
	case 0:
		l.Sync()
		m.safe = len(m.frames)
	case 1:
		answers(t, "Compact", l.Compact(), m.compact())
	case 2:
		l = opens(t, f, slices.Concat(m.frames...))
	case 3:
		keep := []int{-1, 0, 1, pick(40), pick(400), math.MaxInt, math.MinInt}[pick(7)]
		f.Crash(keep)
		m.crash(keep)
		l = opens(t, f, slices.Concat(m.frames...))
	default:
		list := anyOps(pick)
		b, _ := m.bytes()
		want := appended(list, m.room-len(b))
		if l.Fits(list) != (want == api.OK) {
			t.Errorf("Fits: %v", l.Fits(list))
		}
		answers(t, "Append", l.Append(list), want)
		if want == api.OK {
			m.frames = append(m.frames, list)
		}
	}
	return l
}

// P7.1 to P7.5: whatever is called in whatever order, a log is what the chapter's rules make it.
func TestByModel(t *testing.T) {
	pick := source(7)
	for i := range 70 {
		room := []int{10, 27, 60, 300, 2000, 70000, topRoom}[i%7]
		m := &model{replica: i % 16, room: room}
		f, l := formatted(t, m.replica, room)
		for range 40 {
			l = turn(t, f, l, m, pick)
			b, synced := m.bytes()
			has(t, f, b, synced, room)
			tells(t, l, m.replica, slices.Concat(m.frames...), len(slices.Concat(m.frames[:m.safe]...)))
		}
		if t.Failed() {
			t.Fatalf("at the %d-th row of calls", i)
		}
	}
}

// P1: every call ends and none panics, at any arguments, and whatever happens to a log's file.
func TestAnyArguments(t *testing.T) {
	numbers := []int{math.MinInt, -1 << 32, -1, 0, 1, 9, 10, 15, 16, 30, 1 << 32, math.MaxInt}
	lists := [][]api.Op{nil, {}, {{}}, folds(1, 1), each(), wrongOps(), sized(t, topFrame+1), make([]api.Op, 1000)}
	spoils := []func(f *file.File, n int){
		func(f *file.File, n int) { f.Crash(n) },
		func(f *file.File, n int) { f.Trim(n) },
		func(f *file.File, n int) { f.Replace(make([]byte, max(0, min(n, 99)))) },
		func(f *file.File, n int) { f.Append([]byte("no frame")) },
	}
	for _, n := range numbers {
		for _, spoil := range spoils {
			f, l := formatted(t, 5, 300)
			puts(t, l, folds(1, 3))
			for _, list := range lists {
				spoil(f, n)
				l.Fits(list)
				l.Append(list)
				if l.Synced() > l.Count() || l.Count() != len(l.Ops()) || l.Replica() != 5 {
					t.Errorf("Replica %d, Count %d, Synced %d, %d ops", l.Replica(), l.Count(), l.Synced(), len(l.Ops()))
				}
				Open(f)
				spoil(f, n)
				l.Compact()
				l.Sync()
			}
			Format(f, n)
			Open(f)
		}
	}
}

// P1: a log with as many frames as a file has room for, asked behind each of them.
func TestManyFrames(t *testing.T) {
	f, l := formatted(t, 5, topRoom)
	count := 0
	for l.Append(folds(1, 1)) == api.OK {
		count++
		if count%1000 == 0 {
			l.Sync()
		}
		if l.Count() != count || l.Synced() != count/1000*1000 {
			t.Fatalf("behind %d: Count %d, Synced %d", count, l.Count(), l.Synced())
		}
	}
	if count != (topRoom-firstSize)/17 {
		t.Errorf("%d frames", count)
	}
	f.Crash(17 * 3)
	all := slices.Repeat(folds(1, 1), count/1000*1000+3)
	tells(t, opens(t, f, all), 5, all, len(all))
}
