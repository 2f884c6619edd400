package crc

import (
	"bytes"
	"encoding/binary"
	"hash/crc32"
	"math"
	"slices"
	"testing"
)

// told is the chapter's rule for a sum, a bit at a time.
func told(b []byte) int {
	sum := uint32(math.MaxUint32)
	for _, next := range b {
		sum ^= uint32(next)
		for i := 0; i < 8; i++ {
			out := sum & 1
			sum >>= 1
			if out == 1 {
				sum ^= 3988292384
			}
		}
	}
	return int(sum ^ math.MaxUint32)
}

// head: eight bytes that tell so many bytes and that sum.
func head(count, sum uint32) []byte {
	return binary.LittleEndian.AppendUint32(binary.LittleEndian.AppendUint32(nil, count), sum)
}

// made: a frame by the chapter's rule.
func made(b []byte) []byte { return append(head(uint32(len(b)), uint32(told(b))), b...) }

// source answers numbers that look like any, always the same ones.
func source(seed uint64) func(below int) int {
	return func(below int) int {
		seed = seed*6364136223846793005 + 1442695040888963407
		return int(seed>>33) % below
	}
}

// anyBytes: so many bytes of a source.
func anyBytes(next func(int) int, count int) []byte {
	b := make([]byte, count)
	for i := range b {
		b[i] = byte(next(256))
	}
	return b
}

// some bytes: of all small lengths, of all bytes, and of the greatest lengths.
func some() [][]byte {
	next := source(3)
	var list [][]byte
	for count := range 70 {
		list = append(list, anyBytes(next, count))
	}
	for value := range 256 {
		list = append(list, []byte{byte(value)}, []byte{0, byte(value), 0})
	}
	for _, count := range []int{255, 256, 257, 4096, MaxFrame - 1, MaxFrame} {
		list = append(list, make([]byte, count), anyBytes(next, count))
	}
	return list
}

// nextIs reports an answer of Next that is another one.
func nextIs(t *testing.T, what string, b []byte, at int, body []byte, to, kind int) {
	t.Helper()
	if gotBody, gotTo, gotKind := Next(b, at); !bytes.Equal(gotBody, body) || gotTo != to || gotKind != kind {
		t.Errorf("%s: Next at %d of %d bytes: %d bytes, %d, %d; not %d bytes, %d, %d", what, at, len(b), len(gotBody), gotTo, gotKind, len(body), to, kind)
	}
}

// splitIs reports an answer of Split that is another one.
func splitIs(t *testing.T, what string, b []byte, frames [][]byte, to, kind int) {
	t.Helper()
	if got, gotTo, gotKind := Split(b); !slices.EqualFunc(got, frames, bytes.Equal) || gotTo != to || gotKind != kind {
		t.Errorf("%s: Split of %d bytes: %d frames, %d, %d; not %d frames, %d, %d", what, len(b), len(got), gotTo, gotKind, len(frames), to, kind)
	}
}

func TestConstants(t *testing.T) {
	if Whole != 0 || Cut != 1 || Bad != 2 || MaxFrame != 65536 {
		t.Error(Whole, Cut, Bad, MaxFrame)
	}
}

// P2.1: sums that are known, no byte at all among them.
func TestSumKnown(t *testing.T) {
	for _, row := range []struct {
		s    string
		want int
	}{
		{"", 0},
		{"123456789", 3421780262},
		{"a", 3904355907},
		{"\x00", 3523407757},
		{"\xff", 4278190080},
		{"\x00\x00\x00\x00", 558161692},
		{"\xff\xff\xff\xff", 4294967295},
		{"The quick brown fox jumps over the lazy dog", 1095738169},
	} {
		if got := Sum([]byte(row.s)); got != row.want {
			t.Errorf("%q: %d, not %d", row.s, got, row.want)
		}
	}
	if got := Sum(nil); got != 0 {
		t.Error("nil", got)
	}
}

// P2.1: sums as the rule tells them, and more bytes than a frame may have.
func TestSumByRule(t *testing.T) {
	next := source(5)
	for _, b := range append(some(), anyBytes(next, MaxFrame+1), anyBytes(next, 3*MaxFrame)) {
		got := Sum(b)
		if got != told(b) || got != int(crc32.ChecksumIEEE(b)) || got < 0 || got > math.MaxUint32 {
			t.Error(len(b), "bytes:", got, "not", told(b))
		}
	}
}

// P2.1: a frame's bytes, a frame of nothing among them.
func TestFrameBytes(t *testing.T) {
	for _, row := range []struct {
		b    []byte
		want []byte
	}{
		{nil, make([]byte, 8)},
		{[]byte{}, make([]byte, 8)},
		{[]byte("abc"), []byte{3, 0, 0, 0, 0xc2, 0x41, 0x24, 0x35, 'a', 'b', 'c'}},
		{[]byte("123456789"), append([]byte{9, 0, 0, 0, 0x26, 0x39, 0xf4, 0xcb}, "123456789"...)},
	} {
		if f, ok := Frame(row.b); !ok || !bytes.Equal(f, row.want) {
			t.Error(row.b, f, ok)
		}
	}
	for _, b := range some() {
		if f, ok := Frame(b); !ok || !bytes.Equal(f, made(b)) {
			t.Error(len(b), "bytes:", len(f), ok)
		}
	}
}

// P2.1: 65,536 bytes are a frame's, one more are none's.
func TestFrameMost(t *testing.T) {
	full, ok := Frame(make([]byte, 65536))
	if !ok || len(full) != 65544 || !bytes.Equal(full[:4], []byte{0, 0, 1, 0}) {
		t.Error("65,536 bytes:", len(full), ok)
	}
	for _, count := range []int{65537, 65538, 131072, 1 << 24} {
		if f, ok := Frame(make([]byte, count)); ok || len(f) != 0 {
			t.Error(count, "bytes:", len(f), ok)
		}
	}
}

// P2.2: a whole frame at any place, with any bytes ahead of it and behind it.
func TestNextWhole(t *testing.T) {
	for _, b := range some() {
		frame := made(b)
		nextIs(t, "alone", frame, 0, b, len(frame), Whole)
		if made, _ := Frame(b); !bytes.Equal(made, frame) {
			t.Error(len(b), "bytes: Frame makes another one")
		}
		for _, behind := range [][]byte{nil, {0}, {255, 255, 255, 255, 255, 255, 255, 255, 255}} {
			all := slices.Concat([]byte{7, 0, 0, 0, 9}, frame, behind)
			nextIs(t, "among others", all, 5, b, 5+len(frame), Whole)
		}
	}
}

// P2.2: fewer than eight bytes are cut, whatever they tell.
func TestNextFewerThanEight(t *testing.T) {
	for count := range 8 {
		for _, fill := range []byte{0, 1, 255} {
			b := bytes.Repeat([]byte{fill}, count)
			nextIs(t, "alone", b, 0, nil, 0, Cut)
			nextIs(t, "behind others", append([]byte{1, 2, 3}, b...), 3, nil, 3, Cut)
		}
	}
	frame := made(nil)
	nextIs(t, "seven left", frame, 1, nil, 1, Cut)
	nextIs(t, "one left", frame, 7, nil, 7, Cut)
	nextIs(t, "none left", frame, 8, nil, 8, Cut)
	nextIs(t, "nothing", nil, 0, nil, 0, Cut)
	nextIs(t, "nothing", []byte{}, 0, nil, 0, Cut)
}

// P2.2: fewer bytes than are told, of which there are at most 65,536, are cut, whatever the sum.
func TestNextFewerThanTold(t *testing.T) {
	for _, b := range [][]byte{{1}, []byte("abc"), make([]byte, 300), make([]byte, MaxFrame)} {
		frame := made(b)
		for _, left := range []int{8, 8 + len(b)/2, len(frame) - 1} {
			nextIs(t, "a frame's beginning", frame[:left], 0, nil, 0, Cut)
			nextIs(t, "behind a frame", slices.Concat(made([]byte("x")), frame[:left]), 9, nil, 9, Cut)
		}
	}
	nextIs(t, "65,536 told, none there", head(65536, 0), 0, nil, 0, Cut)
	nextIs(t, "65,536 told, one too few", append(head(65536, 5), make([]byte, 65535)...), 0, nil, 0, Cut)
	nextIs(t, "one told, another sum, none there", head(1, math.MaxUint32), 0, nil, 0, Cut)
}

// P2.2: more than 65,536 bytes told are bad, whether they are there or not.
func TestNextMoreThanMost(t *testing.T) {
	for _, count := range []uint32{65537, 65538, 1 << 17, 1 << 24, 1 << 30, 1<<31 - 1, 1 << 31, 1<<31 + 1, math.MaxUint32 - 7, math.MaxUint32} {
		nextIs(t, "not there", head(count, 0), 0, nil, 0, Bad)
		nextIs(t, "not there", append([]byte{1, 2}, head(count, 9)...), 2, nil, 2, Bad)
	}
	nextIs(t, "65,537 there with their sum", made(make([]byte, 65537)), 0, nil, 0, Bad)
	nextIs(t, "65,536 there with their sum", made(make([]byte, 65536)), 0, make([]byte, 65536), 65544, Whole)
}

// P2.2: a sum that is another one is bad.
func TestNextOtherSum(t *testing.T) {
	for _, b := range [][]byte{nil, {0}, []byte("abc"), make([]byte, 65536)} {
		sum := uint32(told(b))
		for _, other := range []uint32{^sum, sum + 1, sum - 1, sum ^ 1<<31, sum ^ 1<<16, sum<<8 | sum>>24} {
			if other == sum {
				continue
			}
			all := append(head(uint32(len(b)), other), b...)
			nextIs(t, "another sum", all, 0, nil, 0, Bad)
			nextIs(t, "another sum", append([]byte{0}, all...), 1, nil, 1, Bad)
		}
	}
}

// P2.2: a place below 0, at the end, behind the end.
func TestNextPlace(t *testing.T) {
	for _, b := range [][]byte{nil, {}, {1}, made(nil), made([]byte("abc"))} {
		nextIs(t, "the end", b, len(b), nil, len(b), Cut)
		for _, at := range []int{-1, -2, -8, math.MinInt, math.MinInt + 1, -1 << 32, len(b) + 1, len(b) + 2, 1 << 32, 1 << 62, math.MaxInt - 7, math.MaxInt} {
			nextIs(t, "no place", b, at, nil, 0, Bad)
		}
	}
	room := append(made([]byte("ab")), made([]byte("cd"))...)
	nextIs(t, "the end, with more in memory", room[:10], 10, nil, 10, Cut)
	nextIs(t, "behind the end, with more in memory", room[:10], 11, nil, 0, Bad)
	nextIs(t, "cut, with more in memory", room[:19], 10, nil, 10, Cut)
}

// P2.3: frames one behind the other, with nothing, or something cut or bad, behind them.
func TestSplitBehind(t *testing.T) {
	great := bytes.Repeat([]byte{0xa5}, 65536)
	turned := made([]byte("abc"))
	turned[9] ^= 4
	for _, bodies := range [][][]byte{
		nil,
		{[]byte("abc")},
		{nil},
		{nil, nil, nil},
		{[]byte("a"), nil, []byte("bc"), great, []byte("d")},
	} {
		var all []byte
		for _, b := range bodies {
			all = append(all, made(b)...)
		}
		to := len(all)
		splitIs(t, "alone", all, bodies, to, Whole)
		for _, row := range []struct {
			what   string
			behind []byte
			kind   int
		}{
			{"one byte", []byte{0}, Cut},
			{"seven bytes", bytes.Repeat([]byte{255}, 7), Cut},
			{"none of one told", head(1, 0), Cut},
			{"a frame but its last byte", made([]byte("xyz"))[:10], Cut},
			{"65,536 told", head(65536, 1), Cut},
			{"65,537 told", head(65537, 1), Bad},
			{"another sum", head(0, 1), Bad},
			{"a bit turned", turned, Bad},
			{"a bit turned, and a frame behind it", slices.Concat(turned, made([]byte("q"))), Bad},
			{"too great, and a frame behind it", slices.Concat(head(math.MaxUint32, 0), made(nil)), Bad},
		} {
			splitIs(t, row.what, slices.Concat(all, row.behind), bodies, to, row.kind)
		}
	}
}

// P2.3: at each place where frames may be cut off.
func TestSplitCutAnywhere(t *testing.T) {
	bodies := [][]byte{[]byte("ab"), nil, []byte("cde"), {0, 0, 0, 0, 0, 0, 0, 0}}
	ends := []int{0}
	var all []byte
	for _, b := range bodies {
		all = append(all, made(b)...)
		ends = append(ends, len(all))
	}
	for count := range len(all) + 1 {
		whole := 0
		for whole < len(bodies) && ends[whole+1] <= count {
			whole++
		}
		kind := Cut
		if ends[whole] == count {
			kind = Whole
		}
		splitIs(t, "cut off", all[:count], bodies[:whole], ends[whole], kind)
	}
}

// P2.3: nothing at all is whole.
func TestSplitNothing(t *testing.T) {
	splitIs(t, "nil", nil, nil, 0, Whole)
	splitIs(t, "empty", []byte{}, nil, 0, Whole)
}

// P2.3: as Next tells it, of any bytes.
func TestSplitByNext(t *testing.T) {
	next := source(11)
	for range 3000 {
		var all []byte
		for range next(6) {
			all = append(all, made(anyBytes(next, next(20)))...)
		}
		if len(all) > 0 && next(2) == 0 {
			all[next(len(all))] ^= 1 << next(8)
		}
		all = append(all, anyBytes(next, next(4)*next(4))...)
		all = all[:len(all)-next(len(all)+1)*next(2)]
		var frames [][]byte
		at, kind := 0, Whole
		for at < len(all) && kind == Whole {
			var body []byte
			body, at, kind = Next(all, at)
			if kind == Whole {
				frames = append(frames, body)
			}
		}
		splitIs(t, "any bytes", all, frames, at, kind)
	}
}

// P2.4: the sum of three texts of one length put against one another.
func TestSumOfThree(t *testing.T) {
	next := source(17)
	for _, count := range []int{0, 1, 2, 3, 4, 5, 7, 8, 9, 31, 64, 1000, 65536, 70000} {
		a, b, c := anyBytes(next, count), anyBytes(next, count), anyBytes(next, count)
		all := make([]byte, count)
		for i := range all {
			all[i] = a[i] ^ b[i] ^ c[i]
		}
		if got, want := Sum(all), Sum(a)^Sum(b)^Sum(c); got != want {
			t.Error(count, "bytes:", got, "not", want)
		}
	}
}

// P2.4: one bit turned behind the first four bytes makes a frame bad.
func TestOneBitTurned(t *testing.T) {
	next := source(19)
	for _, b := range [][]byte{nil, {0}, {255}, []byte("abc"), anyBytes(next, 64), anyBytes(next, 300)} {
		frame, _ := Frame(b)
		for bit := 32; bit < 8*len(frame); bit++ {
			turned := bytes.Clone(frame)
			turned[bit/8] ^= 1 << (bit % 8)
			nextIs(t, "a bit turned", turned, 0, nil, 0, Bad)
			splitIs(t, "a bit turned", append(made([]byte("k")), turned...), [][]byte{[]byte("k")}, 9, Bad)
		}
	}
	full, _ := Frame(anyBytes(next, 65536))
	for _, at := range []int{4, 7, 8, 4000, 65543} {
		turned := bytes.Clone(full)
		turned[at] ^= 16
		nextIs(t, "a bit turned in the greatest", turned, 0, nil, 0, Bad)
	}
}

// P2.4: neither what is handed in nor what lies behind its length is changed.
func TestHandedInStays(t *testing.T) {
	room := slices.Concat(made([]byte("abc")), made(nil), made([]byte("de")), []byte("behind the length"))
	before := bytes.Clone(room)
	in := room[:29]
	Sum(in)
	frame, _ := Frame(in)
	body, _, _ := Next(in, 0)
	list, _, _ := Split(in)
	for _, answer := range append(list, frame, body) {
		clear(answer)
		clear(answer[:cap(answer)])
		_ = append(answer, "more"...)
	}
	if !bytes.Equal(room, before) {
		t.Error("changed", room)
	}
}

// P2.4: what is answered doesn't see later changes of what was handed in.
func TestAnswersKeep(t *testing.T) {
	b := []byte("abc")
	frame, _ := Frame(b)
	clear(b)
	if !bytes.Equal(frame, made([]byte("abc"))) {
		t.Error("Frame", frame)
	}
	all := append(made([]byte("ab")), made([]byte("cd"))...)
	body, _, _ := Next(all, 10)
	list, _, _ := Split(all)
	clear(all)
	if string(body) != "cd" || string(list[0]) != "ab" || string(list[1]) != "cd" {
		t.Error(body, list)
	}
}

// P2.4: no two lists of one answer share memory, spare room too, and no two answers do.
func TestAnswersApart(t *testing.T) {
	all := slices.Concat(made([]byte("ab")), made([]byte("cd")), made([]byte("ef")))
	one, _, _ := Split(all)
	two, _, _ := Split(all)
	for _, at := range []int{1, 0} {
		clear(one[at][:cap(one[at])])
		_ = append(one[at], "zzzz"...)
	}
	if string(one[2]) != "ef" || string(two[0])+string(two[1])+string(two[2]) != "abcdef" {
		t.Error("Split", one, two)
	}
	f, _ := Frame([]byte("ab"))
	g, _ := Frame([]byte("ab"))
	clear(f)
	if !bytes.Equal(g, made([]byte("ab"))) {
		t.Error("Frame", g)
	}
	p, _, _ := Next(all, 0)
	q, _, _ := Next(all, 0)
	clear(p)
	if string(q) != "ab" {
		t.Error("Next", q)
	}
}

// P1: any bytes at any places end without a panic, and the answer keeps to what was handed in.
func TestAnyCalls(t *testing.T) {
	next := source(23)
	places := []int{math.MinInt, -1, 0, 1, 7, 8, 9, 15, 16, 17, math.MaxInt - 8, math.MaxInt}
	for range 30000 {
		b := anyBytes(next, next(24))
		for i := range b {
			b[i] *= byte(next(2) * next(2))
		}
		Sum(b)
		Frame(b)
		at := places[next(len(places))]
		body, to, kind := Next(b, at)
		switch {
		case kind == Whole && !bytes.Equal(b[at:to], made(body)):
			t.Fatal("no frame", b, at, body, to)
		case kind != Whole && len(body) != 0:
			t.Fatal("something", b, at, body, to, kind)
		}
		list, to, kind := Split(b)
		var back []byte
		for _, body := range list {
			back = append(back, made(body)...)
		}
		if !bytes.Equal(b[:to], back) || (kind == Whole) != (to == len(b)) {
			t.Fatal("others", b, list, to, kind)
		}
	}
}
