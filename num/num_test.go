package num

import (
	"bytes"
	"math"
	"strconv"
	"strings"
	"testing"
)

const greatest = 1<<49 - 1

// told is the chapter's rule, done with digits: k-1 ones, a nought, then the number's digits.
func told(n int) []byte {
	digits := strconv.FormatInt(int64(n), 2)
	k := (len(digits) + 6) / 7
	all := strings.Repeat("1", k-1) + "0" + strings.Repeat("0", 7*k-len(digits)) + digits
	var out []byte
	for i := 0; i < len(all); i += 8 {
		b, _ := strconv.ParseUint(all[i:i+8], 2, 8)
		out = append(out, byte(b))
	}
	return out
}

// some right numbers: those about each power of two, and some spread between.
func some() []int {
	var list []int
	for bit := range 50 {
		for n := 1<<bit - 3; n <= 1<<bit+3; n++ {
			if n >= 0 && n <= greatest && (len(list) == 0 || n > list[len(list)-1]) {
				list = append(list, n)
			}
		}
	}
	seed := uint64(7)
	for i := range 400 {
		seed = seed*6364136223846793005 + 1442695040888963407
		list = append(list, int(seed>>15)>>(i%49))
	}
	return list
}

// lostAt reports a cursor that isn't lost, or gives something though it is.
func lostAt(t *testing.T, what string, c *Cursor) {
	t.Helper()
	for range 2 {
		if !c.Lost() || c.End() || c.Left() != 0 {
			t.Error(what, "isn't lost", c.Lost(), c.End(), c.Left())
		}
		if n, s, b := c.Num(math.MaxInt), c.Text(math.MaxInt), c.Bytes(0); n != 0 || s != "" || len(b) != 0 {
			t.Error(what, "takes though lost", n, s, b)
		}
		if b := c.Bytes(1); len(b) != 0 {
			t.Error(what, "takes bytes though lost", b)
		}
	}
}

// P1.1: the chapter's examples, and the edges of how many bytes a number takes.
func TestPutEdges(t *testing.T) {
	for _, row := range []struct {
		n    int
		want []byte
	}{
		{0, []byte{0}},
		{5, []byte{5}},
		{1<<7 - 1, []byte{127}},
		{1 << 7, []byte{128, 128}},
		{1<<14 - 1, []byte{191, 255}},
		{1 << 14, []byte{192, 64, 0}},
		{1<<21 - 1, []byte{223, 255, 255}},
		{1 << 21, []byte{224, 32, 0, 0}},
		{1<<28 - 1, []byte{239, 255, 255, 255}},
		{1 << 28, []byte{240, 16, 0, 0, 0}},
		{1<<35 - 1, []byte{247, 255, 255, 255, 255}},
		{1 << 35, []byte{248, 8, 0, 0, 0, 0}},
		{1<<42 - 1, []byte{251, 255, 255, 255, 255, 255}},
		{1 << 42, []byte{252, 4, 0, 0, 0, 0, 0}},
		{1 << 48, []byte{253, 0, 0, 0, 0, 0, 0}},
		{greatest, []byte{253, 255, 255, 255, 255, 255, 255}},
	} {
		if b, ok := Put(row.n); !ok || !bytes.Equal(b, row.want) {
			t.Error(row.n, b, ok, "not", row.want)
		}
	}
}

// P1.1: as the rule tells it.
func TestPutByRule(t *testing.T) {
	for _, n := range some() {
		if b, ok := Put(n); !ok || !bytes.Equal(b, told(n)) {
			t.Error(n, b, ok, "not", told(n))
		}
	}
}

// P1.1: numbers that aren't right.
func TestPutWrong(t *testing.T) {
	for _, n := range []int{-1, -2, -128, -1 << 49, math.MinInt, greatest + 1, greatest + 2, 1 << 50, 1 << 56, 1 << 62, math.MaxInt} {
		if b, ok := Put(n); ok || len(b) != 0 {
			t.Error(n, b, ok)
		}
	}
}

// P1.1: texts of all lengths' kinds, and any bytes in them.
func TestPutText(t *testing.T) {
	for _, row := range []struct {
		s    string
		head []byte
	}{
		{"", []byte{0}},
		{"ab", []byte{2}},
		{"\x00\xff\x80ä", []byte{5}},
		{strings.Repeat("x", 127), []byte{127}},
		{strings.Repeat("x", 128), []byte{128, 128}},
		{strings.Repeat("\x00", 16384), []byte{192, 64, 0}},
	} {
		want := string(row.head) + row.s
		if got := PutText(row.s); string(got) != want {
			t.Error(len(row.s), "bytes of text:", len(got), "bytes told")
		}
	}
}

// P1.2: what was put is taken, one behind the other.
func TestTakesInOrder(t *testing.T) {
	b := []byte{2, 'a', 'b', 128, 200, 7, 8, 0, 0}
	c := At(b)
	if c.Left() != 9 || c.Lost() || c.End() {
		t.Error("beginning", c.Left(), c.Lost(), c.End())
	}
	if s := c.Text(2); s != "ab" || c.Left() != 6 {
		t.Error("Text", s, c.Left())
	}
	if n := c.Num(200); n != 200 || c.Left() != 4 {
		t.Error("Num", n, c.Left())
	}
	if p := c.Bytes(2); !bytes.Equal(p, []byte{7, 8}) || c.Left() != 2 {
		t.Error("Bytes", p, c.Left())
	}
	if n := c.Num(0); n != 0 || c.Lost() || c.Left() != 1 || c.End() {
		t.Error("nought", n, c.Lost(), c.Left(), c.End())
	}
	if s := c.Text(0); s != "" || c.Lost() || c.Left() != 0 || !c.End() {
		t.Error("empty text", s, c.Lost(), c.Left(), c.End())
	}
	if p := c.Bytes(0); len(p) != 0 || c.Lost() || !c.End() {
		t.Error("no bytes", p, c.Lost(), c.End())
	}
	c.Num(9)
	lostAt(t, "behind the end", c)
}

// P1.2: a cursor over nothing is at its end.
func TestNothing(t *testing.T) {
	for _, b := range [][]byte{nil, {}} {
		if c := At(b); c.Left() != 0 || c.Lost() || !c.End() {
			t.Error(c.Left(), c.Lost(), c.End())
		}
		c := At(b)
		c.Num(math.MaxInt)
		lostAt(t, "Num", c)
		c = At(b)
		c.Text(math.MaxInt)
		lostAt(t, "Text", c)
		c = At(b)
		c.Bytes(1)
		lostAt(t, "Bytes", c)
	}
}

// P1.2: every number comes back, with other bytes behind it.
func TestNumBack(t *testing.T) {
	for _, n := range some() {
		c := At(append(told(n), 255, 1))
		if got := c.Num(n); got != n || c.Lost() || c.Left() != 2 {
			t.Error(n, got, c.Lost(), c.Left())
		}
	}
}

// P1.2: bytes that are no number: too few, more than are needed, no such beginning.
func TestNumWrong(t *testing.T) {
	for _, b := range [][]byte{
		{128, 0}, {128, 5}, {128, 127}, // one byte would do
		{192, 0, 0}, {192, 63, 255},
		{224, 0, 0, 0}, {224, 31, 255, 255},
		{240, 15, 255, 255, 255},
		{248, 7, 255, 255, 255, 255},
		{252, 0, 0, 0, 0, 0, 0}, {252, 3, 255, 255, 255, 255, 255},
		{128}, {192, 64}, {224, 32, 0}, {240, 16, 0, 0}, {248, 8, 0, 0, 0}, {252, 4, 0, 0, 0, 0}, {253, 255, 255, 255, 255, 255},
		{254, 255, 255, 255, 255, 255, 255}, {254, 255, 255, 255, 255, 255, 255, 255, 255},
		{255, 255, 255, 255, 255, 255, 255, 255, 255}, {255, 0, 0, 0, 0, 0, 0, 0, 0},
	} {
		c := At(b)
		if n := c.Num(math.MaxInt); n != 0 {
			t.Error(b, n)
		}
		lostAt(t, "Num", c)
		c = At(b)
		if s := c.Text(math.MaxInt); s != "" {
			t.Error(b, s)
		}
		lostAt(t, "Text", c)
	}
}

// P1.2: a number takes its bytes just if they are those of Put.
func TestNumJustPut(t *testing.T) {
	for i := range 1 << 16 {
		b := []byte{byte(i >> 8), byte(i)}
		c := At(b)
		n := c.Num(math.MaxInt)
		if none := b[0] == 128 && b[1] < 128 || b[0] >= 192; c.Lost() != none {
			t.Error(b, "lost", c.Lost())
		}
		if c.Lost() {
			continue
		}
		if want, _ := Put(n); !bytes.Equal(b[:2-c.Left()], want) {
			t.Error(b, n, want)
		}
	}
}

// P1.2: a number above most, with right bytes behind it.
func TestNumMost(t *testing.T) {
	for _, n := range some() {
		b := append(told(n), 1, 2)
		for _, most := range []int{n - 1, n - 2, n / 2, 0, -1, math.MinInt} {
			if most >= n {
				continue
			}
			c := At(b)
			if got := c.Num(most); got != 0 {
				t.Error(n, most, got)
			}
			lostAt(t, "Num above most", c)
		}
		for _, most := range []int{n, n + 1, math.MaxInt} {
			if c := At(b); c.Num(most) != n || c.Lost() {
				t.Error(n, most)
			}
		}
	}
}

// P1.2: texts come back; one longer than most doesn't.
func TestTextMost(t *testing.T) {
	for _, s := range []string{"", "a", "\x00\xff", strings.Repeat("y", 127), strings.Repeat("z", 128), strings.Repeat("\xfe", 20000)} {
		b := append(PutText(s), 9)
		for _, most := range []int{len(s), len(s) + 1, greatest, math.MaxInt} {
			c := At(b)
			if got := c.Text(most); got != s || c.Lost() || c.Left() != 1 {
				t.Error(len(s), most, len(got), c.Left())
			}
		}
		for _, most := range []int{len(s) - 1, -1, math.MinInt} {
			c := At(b)
			if got := c.Text(most); got != "" {
				t.Error(len(s), most, len(got))
			}
			lostAt(t, "Text longer than most", c)
		}
	}
}

// P1.2: a text of which not all bytes are there.
func TestTextCut(t *testing.T) {
	long, _ := Put(greatest)
	for _, b := range [][]byte{{1}, {3, 'a', 'b'}, {128, 128, 'a'}, append(long, "abc"...)} {
		c := At(b)
		if s := c.Text(math.MaxInt); s != "" {
			t.Error(b, s)
		}
		lostAt(t, "Text that is cut", c)
	}
}

// P1.2: a count below 0, or greater than what is there.
func TestBytesCount(t *testing.T) {
	b := []byte{1, 255, 3}
	for _, n := range []int{-1, -3, math.MinInt, 4, 5, 1 << 32, math.MaxInt} {
		c := At(b)
		if p := c.Bytes(n); len(p) != 0 {
			t.Error(n, p)
		}
		lostAt(t, "Bytes", c)
	}
	for n := range 4 {
		c := At(b)
		if p := c.Bytes(n); !bytes.Equal(p, b[:n]) || c.Left() != 3-n || c.Lost() || c.End() != (n == 3) {
			t.Error(n, p, c.Left(), c.Lost(), c.End())
		}
	}
	c := At(b)
	c.Bytes(2)
	if p := c.Bytes(2); len(p) != 0 {
		t.Error("behind two", p)
	}
	lostAt(t, "Bytes behind two", c)
}

// P1.3: the order of the bytes is that of the numbers; none begins with another one.
func TestOrder(t *testing.T) {
	list := some()
	all := make([][]byte, len(list))
	for i, n := range list {
		all[i], _ = Put(n)
	}
	for i, n := range list {
		for j, m := range list {
			if (n < m) != (bytes.Compare(all[i], all[j]) < 0) {
				t.Fatal(n, m, all[i], all[j])
			}
			if n != m && bytes.HasPrefix(all[i], all[j]) {
				t.Fatal(n, "begins with", m)
			}
		}
	}
}

// P1.4: neither what is handed in nor what lies behind its length is changed.
func TestHandedInStays(t *testing.T) {
	room := []byte{2, 'a', 'b', 128, 200, 7, 8, 9, 10, 11}
	before := bytes.Clone(room)
	c := At(room[:7])
	c.Text(2)
	c.Num(200)
	p := c.Bytes(1)
	p[0] = 77
	_ = append(p, 78, 79)
	if c.Left() != 1 || c.Num(8) != 8 {
		t.Error("a cursor sees what lies behind the length, or what is done to an answer")
	}
	c.Bytes(1)
	if !bytes.Equal(room, before) {
		t.Error("changed", room)
	}
}

// P1.4: a cursor doesn't see later changes.
func TestCursorApart(t *testing.T) {
	b := []byte{5, 1, 'a', 6, 7}
	c := At(b)
	clear(b)
	if c.Num(9) != 5 || c.Text(9) != "a" || !bytes.Equal(c.Bytes(2), []byte{6, 7}) || !c.End() {
		t.Error("sees changes")
	}
}

// P1.4: each answer is memory of its own, and so is each cursor.
func TestAnswersApart(t *testing.T) {
	b := []byte{1, 2, 3, 4}
	c, d := At(b), At(b)
	one := c.Bytes(2)
	two := c.Bytes(2)
	_ = append(one, 50, 60)
	clear(one)
	if !bytes.Equal(two, []byte{3, 4}) || !bytes.Equal(d.Bytes(4), b) {
		t.Error("Bytes", two)
	}
	p, _ := Put(300)
	clear(p)
	if q, _ := Put(300); !bytes.Equal(q, []byte{129, 44}) {
		t.Error("Put", q)
	}
	s := PutText("ab")
	clear(s)
	if q := PutText("ab"); !bytes.Equal(q, []byte{2, 'a', 'b'}) {
		t.Error("PutText", q)
	}
}

// P1: any calls, with any numbers, in any order, end without a panic, and keep to what a cursor is.
func TestAnyCalls(t *testing.T) {
	numbers := []int{math.MinInt, math.MinInt + 1, -1 << 49, -1, 0, 1, 2, 3, 127, 128, greatest, greatest + 1, math.MaxInt - 1, math.MaxInt}
	seed := uint64(1)
	next := func(below int) int {
		seed = seed*6364136223846793005 + 1442695040888963407
		return int(seed>>33) % below
	}
	for range 20000 {
		b := make([]byte, next(12))
		for i := range b {
			b[i] = byte(next(256)) >> (next(2) * next(8))
		}
		c := At(b)
		for range 5 {
			left, lost, n := c.Left(), c.Lost(), numbers[next(len(numbers))]
			switch next(3) {
			case 0:
				c.Num(n)
			case 1:
				c.Text(n)
			case 2:
				c.Bytes(n)
			}
			if c.Left() > left || lost && !c.Lost() || c.Lost() && c.Left() != 0 || c.End() != (!c.Lost() && c.Left() == 0) {
				t.Fatal(b, n, left, c.Left(), lost, c.Lost(), c.End())
			}
		}
	}
}
