package frac

import (
	"bytes"
	"math"
	"slices"
	"strings"
	"testing"
	"unsafe"

	"offshoot/api"
)

// The chapter's bounds, written out.
const (
	topLength = 32
	topRow    = 400
)

// times: a byte, so many times.
func times(b byte, n int) string { return string(bytes.Repeat([]byte{b}, n)) }

// source: numbers that are the same at each run.
func source(seed uint64) func(below int) int {
	return func(below int) int {
		seed = seed*6364136223846793005 + 1442695040888963407
		return int(seed>>33) % below
	}
}

// rightKey: the chapter's rule for a right key.
func rightKey(k string) bool {
	return k != "" && !(len(k) > topLength) && !strings.HasSuffix(k, "\x00")
}

// under: the chapter's order: the first byte that is another one tells, else the shorter key is below.
func under(a, b string) bool {
	for b != "" {
		if a == "" || a[0] < b[0] {
			return true
		}
		if a[0] > b[0] {
			return false
		}
		a, b = a[1:], b[1:]
	}
	return false
}

// rest: the chapter's rule, for the bytes that are still to be made between two right ends; bound, if the upper end
// still counts.
func rest(low, high string, bound bool) string {
	x, y := 0, 256
	if low != "" {
		x, low = int(low[0]), low[1:]
	}
	if bound {
		y, high = int(high[0]), high[1:]
	}
	switch {
	case x == y:
		return string([]byte{byte(x)}) + rest(low, high, true)
	case y == x+1:
		return string([]byte{byte(x)}) + rest(low, "", false)
	case y == 256 && y-x > 16:
		return string([]byte{byte(x + 8)})
	}
	return string([]byte{byte(x + (y-x)/2)})
}

// want: what the chapter asks of Between.
func want(low, high string) (string, api.Errno) {
	if low != "" && !rightKey(low) || high != "" && !rightKey(high) {
		return "", api.ErrKey
	}
	if low != "" && high != "" && !under(low, high) {
		return "", api.ErrKey
	}
	if k := rest(low, high, high != ""); len(k) <= topLength {
		return k, api.OK
	}
	return "", api.ErrKey
}

// check: is a key as the chapter asks, and does it stand between its ends?
func check(t *testing.T, low, high string) {
	t.Helper()
	k, wrong := Between(low, high)
	if w, e := want(low, high); k != w || wrong != e {
		t.Fatalf("Between %q and %q: %q, %v; asked: %q, %v", low, high, k, wrong, w, e)
	}
	if wrong != api.OK {
		return
	}
	if !rightKey(k) || !Right(k) || !under(low, k) || Order(low, k) != -1 {
		t.Fatalf("Between %q and %q: %q isn't right or isn't above", low, high, k)
	}
	if high != "" && (!under(k, high) || Order(k, high) != -1) {
		t.Fatalf("Between %q and %q: %q isn't below", low, high, k)
	}
}

// fewKeys: all texts of at most so many of some bytes, right and wrong ones.
func fewKeys(letters string, most int) []string {
	all := []string{""}
	for from := 0; most > 0; most-- {
		to := len(all)
		for _, k := range all[from:to] {
			for _, b := range []byte(letters) {
				all = append(all, k+string([]byte{b}))
			}
		}
		from = to
	}
	return all
}

// P4.1: a key is right, if it has 1 to 32 bytes, the last of which isn't 0.
func TestRight(t *testing.T) {
	for _, c := range []struct {
		k    string
		want bool
	}{
		{"a", true}, {"ab", true}, {"\x01", true}, {"\xff", true}, {"\x80", true},
		{"", false}, {"\x00", false}, {"a\x00", false}, {"\x00\x00", false},
		{"\x00\x01", true}, {"a\x00b", true}, {"\x00\x00\xff", true},
		{times('a', 31), true}, {times('a', 32), true}, {times('a', 33), false}, {times('a', 34), false},
		{times('a', 31) + "\x00", false}, {times('a', 32) + "\x00", false},
		{times(0, 31) + "\x01", true}, {times(0, 32) + "\x01", false}, {times(0, 32), false},
		{times('a', 64), false}, {times('a', 257), false}, {times('a', 256+32), false}, {times('a', 1<<16+1), false},
	} {
		if got := Right(c.k); got != c.want {
			t.Errorf("Right of %q: %v", c.k, got)
		}
	}
	for length := range 70 {
		for last := range 256 {
			k := times(0, length) + string([]byte{byte(last)})
			if got := Right(k); got != (length < 32 && last > 0) {
				t.Errorf("Right of %q: %v", k, got)
			}
		}
	}
}

// P4.1: keys are in order byte by byte; what another key begins with is below it.
func TestOrder(t *testing.T) {
	for _, c := range []struct {
		a, b string
		want int
	}{
		{"a", "b", -1}, {"b", "a", 1}, {"a", "a", 0}, {"", "", 0},
		{"", "a", -1}, {"a", "", 1}, {"", "\x00", -1}, {"\x00", "", 1},
		{"a", "ab", -1}, {"ab", "a", 1}, {"b", "ab", 1}, {"ab", "b", -1},
		{"a", "a\x00", -1}, {"a\x00", "a\x00\x01", -1}, {"a\x00\x01", "a\x01", -1},
		{"\x7f", "\x80", -1}, {"\x01", "\xff", -1}, {"\xff", "\x01", 1}, {"a\xff", "b", -1}, {"a\xffz", "b", -1},
		{"é", "z", 1}, {"A", "a", -1}, {"\xff\xfe", "\xff\xff", -1},
		{times('a', 32), times('a', 31), 1}, {times('a', 32), times('a', 33), -1}, {times('a', 32), times('a', 32), 0},
		{times('a', 31) + "b", times('a', 33), 1}, {times('a', 40) + "b", times('a', 40) + "c", -1},
	} {
		if got := Order(c.a, c.b); got != c.want {
			t.Errorf("Order of %q and %q: %d", c.a, c.b, got)
		}
	}
	keys := fewKeys("\x00\x01a\x7f\x80\xff", 3)
	for _, a := range keys {
		for _, b := range keys {
			asked := 0
			if under(a, b) {
				asked = -1
			}
			if under(b, a) {
				asked = 1
			}
			if got := Order(a, b); got != asked {
				t.Fatalf("Order of %q and %q: %d", a, b, got)
			}
		}
	}
}

// P4.2: the key that is made, with its bytes told one by one.
func TestBetween(t *testing.T) {
	for _, c := range []struct{ low, high, want string }{
		// The chapter's examples.
		{"", "", "\x08"}, {"\x08", "\x09", "\x08\x08"},
		// No upper end: at most 8 more, then half of what is left, then one byte more.
		{"\x08", "", "\x10"}, {"\x01", "", "\x09"}, {"a", "", "i"},
		{"\xef", "", "\xf7"}, {"\xf0", "", "\xf8"}, {"\xf1", "", "\xf8"}, {"\xf7", "", "\xfb"}, {"\xf8", "", "\xfc"},
		{"\xfc", "", "\xfe"}, {"\xfd", "", "\xfe"}, {"\xfe", "", "\xff"}, {"\xff", "", "\xff\x08"},
		{"\xff\xff", "", "\xff\xff\x08"}, {"\xff\x08", "", "\xff\x10"}, {"\xff\xfe", "", "\xff\xff"},
		{"a\xff", "", "i"}, {"\xfe\xff", "", "\xff"}, {"\x00\x01", "", "\x08"}, {"\x00\xff", "", "\x08"},
		// No lower end: half of the upper end's byte, and no bound of 8.
		{"", "\x08", "\x04"}, {"", "\x02", "\x01"}, {"", "\x03", "\x01"}, {"", "\xff", "\x7f"}, {"", "\xfe", "\x7f"},
		{"", "\x80", "\x40"}, {"", "\x01", "\x00\x08"}, {"", "\x01\x01", "\x00\x08"}, {"", "\x02\x01", "\x01"},
		{"", "\x00\x01", "\x00\x00\x08"}, {"", "\x00\x02", "\x00\x01"}, {"", "\x00\x00\x09", "\x00\x00\x04"},
		// Both ends, with bytes that are far apart, two apart, and one apart.
		{"a", "c", "b"}, {"a", "d", "b"}, {"a", "e", "c"}, {"\x01", "\xff", "\x80"}, {"\x10", "\xf0", "\x80"},
		{"a", "b", "a\x08"}, {"az", "b", "a\x82"}, {"a\xff", "b", "a\xff\x08"}, {"a\xfe", "b", "a\xff"},
		{"a\xf8", "b", "a\xfc"}, {"\x08\x08", "\x09", "\x08\x10"}, {"\x08", "\x09\x01", "\x08\x08"},
		{"a", "bz", "a\x08"}, {"az", "bz", "a\x82"}, {"az", "ba", "a\x82"}, {"\xfe", "\xff", "\xfe\x08"},
		{"a\xffz", "b\x01", "a\xff\x82"}, {"a\x00\x01", "b", "a\x08"}, {"ab", "ac", "ab\x08"}, {"abz", "ac", "ab\x82"},
		// The lower end is what the upper one begins with.
		{"a", "ab", "a1"}, {"ab", "abc", "ab1"}, {"a", "a\x02", "a\x01"}, {"a", "a\x01", "a\x00\x08"},
		{"a", "a\x01\x01", "a\x00\x08"}, {"\xff", "\xff\xff", "\xff\x7f"},
		// The upper end goes on in noughts behind the lower one.
		{"a", "a\x00\x01", "a\x00\x00\x08"}, {"a", "a\x00\x02", "a\x00\x01"}, {"a", "a\x00\x00\x03", "a\x00\x00\x01"},
		{"a", "a\x00\x00\x00\x01z", "a\x00\x00\x00\x00\x08"}, {"a", "a\x00b", "a\x001"},
		// Bytes that are one on both sides, noughts among them.
		{"aa", "ac", "ab"}, {"\x00\x01", "\x00\x03", "\x00\x02"}, {"\x00\x01", "\x00\x02", "\x00\x01\x08"},
		{"a\x00b", "a\x00d", "a\x00c"}, {"\xffa", "\xffc", "\xffb"},
		// A byte that is one on both sides counts no more, once a byte ahead of it is below the upper end's.
		{"abc", "bbd", "aj"}, {"a\xffc", "b\xffd", "a\xffk"},
	} {
		if k, wrong := Between(c.low, c.high); k != c.want || wrong != api.OK {
			t.Errorf("Between %q and %q: %q, %v; asked: %q", c.low, c.high, k, wrong, c.want)
		}
		check(t, c.low, c.high)
	}
}

// P4.2: a key of 32 bytes is told, and one that would have more is refused.
func TestBetweenLong(t *testing.T) {
	for _, c := range []struct {
		low, high, want string
		wrong           api.Errno
	}{
		{times(0xff, 30), "", times(0xff, 30) + "\x08", api.OK},
		{times(0xff, 31), "", times(0xff, 31) + "\x08", api.OK},
		{times(0xff, 31) + "\x08", "", times(0xff, 31) + "\x10", api.OK},
		{times(0xff, 31) + "\xfe", "", times(0xff, 32), api.OK},
		{times(0xff, 32), "", "", api.ErrKey},
		{"", times(0, 30) + "\x01", times(0, 31) + "\x08", api.OK},
		{"", times(0, 31) + "\x03", times(0, 31) + "\x01", api.OK},
		{"", times(0, 31) + "\x02", times(0, 31) + "\x01", api.OK},
		{"", times(0, 31) + "\x01", "", api.ErrKey},
		{times('a', 31) + "a", times('a', 31) + "c", times('a', 31) + "b", api.OK},
		{times('a', 31) + "a", times('a', 31) + "b", "", api.ErrKey},
		{times('a', 31), times('a', 30) + "b", times('a', 31) + "\x08", api.OK},
		{times('a', 31) + "\xff", times('a', 30) + "b", "", api.ErrKey},
		{times('a', 31) + "\xfe", times('a', 30) + "b", times('a', 31) + "\xff", api.OK},
		{times('a', 31), times('a', 31) + "\x02", times('a', 31) + "\x01", api.OK},
		{times('a', 31), times('a', 31) + "\x01", "", api.ErrKey},
		{times('a', 30), times('a', 30) + "\x00\x01", "", api.ErrKey},
		{times('a', 29), times('a', 29) + "\x00\x01", times('a', 29) + "\x00\x00\x08", api.OK},
		{times('a', 30), times('a', 30) + "\x01", times('a', 30) + "\x00\x08", api.OK},
		{"a", "a" + times(0, 30) + "\x01", "", api.ErrKey},
		{"a", "a" + times(0, 29) + "\x01", "a" + times(0, 30) + "\x08", api.OK},
		{"a" + times(0xff, 31), "b", "", api.ErrKey},
		{"a" + times(0xff, 30), "b", "a" + times(0xff, 30) + "\x08", api.OK},
		{"a" + times(0xff, 31), "c", "b", api.OK},
		{"a" + times(0xff, 31), "", "i", api.OK},
		{times('a', 32), "", "i", api.OK},
		{"", times('a', 32), "0", api.OK},
		{times('a', 32), times('c', 32), "b", api.OK},
	} {
		if k, wrong := Between(c.low, c.high); k != c.want || wrong != c.wrong {
			t.Errorf("Between %q and %q: %q, %v; asked: %q, %v", c.low, c.high, k, wrong, c.want, c.wrong)
		}
		check(t, c.low, c.high)
	}
}

// P4.2: an end that is neither empty nor right, and a lower end that isn't below the upper one, are refused.
func TestBetweenWrong(t *testing.T) {
	for _, c := range [][2]string{
		{"\x00", ""}, {"", "\x00"}, {"\x00", "\x00"}, {"a\x00", ""}, {"", "a\x00"}, {"a\x00", "b"}, {"a", "b\x00"},
		{"a", "a\x00"}, {"a\x00", "a\x00\x01"}, {"\x00", "a"}, {"a\x00", "b\x00"},
		{times('a', 33), ""}, {"", times('a', 33)}, {times('a', 33), "b"}, {"a", times('b', 33)}, {times('a', 31) + "\x00", ""},
		{times('a', 1<<16), ""}, {"", times('a', 1<<16)}, {times('a', 33), times('b', 33)},
		{"a", "a"}, {"\x01", "\x01"}, {"\xff", "\xff"}, {"ab", "ab"}, {times('a', 32), times('a', 32)},
		{"b", "a"}, {"c", "a"}, {"ab", "a"}, {"abc", "ab"}, {"b", "ab"}, {"b", "az"}, {"\xff", "\x01"}, {"\x80", "\x7f"},
		{"a\x00\x01", "a"}, {times('a', 32), "a"}, {times('a', 32), times('a', 31)}, {"\xff\x08", "\xff"},
	} {
		if k, wrong := Between(c[0], c[1]); k != "" || wrong != api.ErrKey {
			t.Errorf("Between %q and %q: %q, %v", c[0], c[1], k, wrong)
		}
		check(t, c[0], c[1])
	}
}

// P4.2: all one byte ends, with each byte on each side.
func TestBetweenBytes(t *testing.T) {
	for low := range 256 {
		for high := range 256 {
			check(t, string([]byte{byte(low)}), string([]byte{byte(high)}))
			check(t, "m"+string([]byte{byte(low)}), "n"+string([]byte{byte(high)}))
		}
		check(t, string([]byte{byte(low)}), "")
		check(t, "", string([]byte{byte(low)}))
	}
}

// P4.2: all short ends of some bytes, right and wrong ones, each against each.
func TestBetweenShort(t *testing.T) {
	keys := fewKeys("\x00\x01\x02a\xfe\xff", 3)
	for _, low := range keys {
		for _, high := range keys {
			check(t, low, high)
		}
	}
}

// P4.2: ends of all lengths that have much in common.
func TestBetweenMany(t *testing.T) {
	next := source(4)
	key := func() string {
		b := bytes.Repeat([]byte{[]byte{0, 1, 'a', 0xfe, 0xff}[next(5)]}, next(36))
		for range next(3) {
			if len(b) > 0 {
				b[len(b)-1-next(min(3, len(b)))] = byte(next(256))
			}
		}
		return string(b)
	}
	refused := 0
	for range 200000 {
		low, high := key(), key()
		check(t, low, high)
		if _, wrong := Between(low, high); wrong != api.OK {
			refused++
		}
	}
	if refused < 20000 || refused > 180000 {
		t.Errorf("%d of 200000 were refused", refused)
	}
}

// P4.2: room is found again and again on either side of a key, till a key would have more than 32 bytes.
func TestBetweenNested(t *testing.T) {
	next := source(44)
	for range 2000 {
		low, high := "", ""
		for {
			check(t, low, high)
			k, wrong := Between(low, high)
			if wrong != api.OK {
				if w, _ := want(low, high); w != "" {
					t.Fatalf("refused between %q and %q", low, high)
				}
				break
			}
			if next(2) == 0 {
				low = k
			} else {
				high = k
			}
		}
		if len(low) < topLength && len(high) < topLength {
			t.Fatalf("no room between %q and %q", low, high)
		}
	}
}

// P4.3: so many keys, each Between the one ahead of it and none.
func TestRow(t *testing.T) {
	head := []string{"\x08", "\x10", "\x18", "\x20", "\x28", "\x30", "\x38", "\x40"}
	if got := Row(8); !slices.Equal(got, head) {
		t.Errorf("Row of 8: %q", got)
	}
	full := Row(topRow)
	for at, k := range map[int]string{
		0: "\x08", 1: "\x10", 29: "\xf0", 30: "\xf8", 31: "\xfc", 32: "\xfe", 33: "\xff", 34: "\xff\x08", 67: "\xff\xff",
		68: "\xff\xff\x08", 373: times(0xff, 10) + "\xff", 374: times(0xff, 11) + "\x08", 399: times(0xff, 11) + "\xd0",
	} {
		if full[at] != k {
			t.Errorf("key %d: %q; asked: %q", at, full[at], k)
		}
	}
	for n := range topRow + 1 {
		row := Row(n)
		if len(row) != n {
			t.Fatalf("Row of %d has %d", n, len(row))
		}
		ahead := ""
		for i, k := range row {
			if w, _ := want(ahead, ""); k != w || !rightKey(k) || !under(ahead, k) {
				t.Fatalf("Row of %d: key %d is %q; asked: %q", n, i, k, w)
			}
			ahead = k
		}
	}
}

// P4.3: no keys for numbers that aren't 0 to 400.
func TestRowBounds(t *testing.T) {
	for n, w := range map[int]int{
		math.MinInt: 0, math.MinInt + 1: 0, math.MinInt + 400: 0, -1 << 32: 0, -401: 0, -400: 0, -2: 0, -1: 0,
		0: 0, 1: 1, 2: 2, 399: 399, 400: 400,
		401: 0, 402: 0, 800: 0, 1 << 16: 0, 1 << 32: 0, 1<<32 + 1: 0, 1<<62 + 1: 0, math.MaxInt - 1: 0, math.MaxInt: 0,
	} {
		if got := Row(n); len(got) != w {
			t.Errorf("Row of %d has %d", n, len(got))
		}
	}
	if got := Row(1); !slices.Equal(got, []string{"\x08"}) {
		t.Errorf("Row of 1: %q", got)
	}
}

// P4.4: a key stays what it is, when the memory that its ends stood in is written over, and its ends stay what they are.
func TestBetweenMemory(t *testing.T) {
	for _, c := range [][2]string{
		{"", ""}, {"a", ""}, {"", "a"}, {"a", "c"}, {"a", "ab"}, {"\xff\xff", ""}, {"", "\x00\x00\x01"}, {"ab", "abc"},
		{times('a', 31), times('a', 30) + "b"}, {times('a', 31) + "a", times('a', 31) + "c"},
	} {
		low, high := []byte(c[0]+"spare"), []byte(c[1]+"spare")
		k, wrong := Between(unsafe.String(&low[0], len(c[0])), unsafe.String(&high[0], len(c[1])))
		if string(low) != c[0]+"spare" || string(high) != c[1]+"spare" {
			t.Errorf("Between %q and %q changed its ends", c[0], c[1])
		}
		for i := range low {
			low[i] ^= 0x55
		}
		for i := range high {
			high[i] ^= 0x55
		}
		if w, _ := want(c[0], c[1]); k != w || wrong != api.OK {
			t.Errorf("Between %q and %q: %q, %v behind a change of its ends", c[0], c[1], k, wrong)
		}
	}
}

// P4.4: two rows share nothing, behind their length neither.
func TestRowMemory(t *testing.T) {
	for _, n := range []int{1, 2, 35, 399, 400} {
		one, other := Row(n), Row(n)
		wide := one[:cap(one)]
		for i := range wide {
			wide[i] = "written over"
		}
		_ = append(other, "more")
		if third := Row(n); !slices.Equal(other, third) || other[0] != "\x08" {
			t.Errorf("rows of %d share memory", n)
		}
	}
}

// P1: every call ends and none panics, at any arguments; what is answered hangs on them alone.
func TestAnyArguments(t *testing.T) {
	next := source(444)
	for range 20000 {
		ends := [2]string{}
		for i := range ends {
			b := make([]byte, next(80))
			for j := range b {
				b[j] = byte(next(256))
			}
			ends[i] = string(b)
		}
		low, high := ends[0], ends[1]
		if Right(low) != rightKey(low) || (Order(low, high) < 0) != under(low, high) || Order(low, high) != -Order(high, low) {
			t.Fatalf("Right or Order of %q and %q", low, high)
		}
		check(t, low, high)
		one, _ := Between(low, high)
		if again, _ := Between(low, high); one != again {
			t.Fatalf("Between %q and %q: %q, then %q", low, high, one, again)
		}
		n := next(1<<30) - 1<<29
		if got := len(Row(n)); n != 0 && got != 0 && got != n {
			t.Fatalf("Row of %d has %d", n, got)
		}
	}
	huge := times('a', 1<<20)
	for _, end := range []string{huge, huge + "\x00", times(0, 1<<20), times(0xff, 1<<20)} {
		if Right(end) || Order(end, end) != 0 {
			t.Error("a huge key")
		}
		check(t, end, "")
		check(t, "", end)
		check(t, end, end)
	}
}
