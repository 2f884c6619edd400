package stamp

import (
	"cmp"
	"math"
	"slices"
	"strconv"
	"strings"
	"sync"
	"testing"

	"offshoot/api"
)

// The chapter's bounds, written out.
const (
	topReplica = 15
	topNumber  = 1048576
	topTime    = 1099511627776
	topLetter  = 63
)

// edges: numbers at, beside and far from all bounds.
func edges() []int {
	return []int{
		math.MinInt, math.MinInt + 1, -topTime, -topNumber, -16, -1, 0, 1, 2, 14, 15, 16, 17, 62, 63, 64, 65, 255, 256,
		topNumber - 1, topNumber, topNumber + 1, 2 * topNumber, 1 << 32, 1<<32 + 1,
		topTime - 1, topTime, topTime + 1, 2 * topTime, 1<<62 + 1, math.MaxInt - 1, math.MaxInt,
	}
}

// ids: names of all edges.
func ids() []api.Id {
	var list []api.Id
	for _, r := range edges() {
		for _, n := range edges() {
			list = append(list, api.Id{R: r, N: n})
		}
	}
	return list
}

// between: is it one of the numbers from one up to another one, with both?
func between(from, n, to int) bool { return !(n < from) && !(n > to) }

// opName: the chapter's rule for an op's name.
func opName(id api.Id) bool { return between(0, id.R, topReplica) && between(1, id.N, topNumber) }

// P3.1: a name is an op's, if its replica is 0 to 15, and its number 1 to 2^20.
func TestRightOp(t *testing.T) {
	for _, c := range []struct {
		id   api.Id
		want bool
	}{
		{api.Id{R: 2, N: 7}, true},
		{api.Id{R: -1, N: 1}, false}, {api.Id{R: 0, N: 1}, true}, {api.Id{R: 15, N: 1}, true}, {api.Id{R: 16, N: 1}, false},
		{api.Id{R: 3, N: 0}, false}, {api.Id{R: 3, N: 1}, true}, {api.Id{R: 3, N: 1 << 20}, true}, {api.Id{R: 3, N: 1<<20 + 1}, false},
		{api.Id{}, false}, {api.Id{R: 1}, false}, {api.Id{N: -1}, false},
	} {
		if got := RightOp(c.id); got != c.want {
			t.Errorf("RightOp of %v: %v", c.id, got)
		}
	}
	for _, id := range ids() {
		if got := RightOp(id); got != opName(id) {
			t.Errorf("RightOp of %v: %v", id, got)
		}
	}
}

// P3.1: a name is a block's, if it is an op's, or Root, or Trash.
func TestRightBlock(t *testing.T) {
	for _, c := range []struct {
		id   api.Id
		want bool
	}{
		{api.Id{R: 2, N: 7}, true}, {api.Root, true}, {api.Trash, true}, {api.Id{R: 0, N: 0}, true}, {api.Id{R: 1, N: 0}, true},
		{api.Id{R: 2, N: 0}, false}, {api.Id{R: 15, N: 0}, false}, {api.Id{R: -1, N: 0}, false}, {api.Id{R: 0, N: -1}, false},
		{api.Id{R: 1, N: -1}, false}, {api.Id{R: 16, N: 1}, false}, {api.Id{R: 1, N: 1<<20 + 1}, false},
	} {
		if got := RightBlock(c.id); got != c.want {
			t.Errorf("RightBlock of %v: %v", c.id, got)
		}
	}
	for _, id := range ids() {
		always := id.N == 0 && (id.R == 0 || id.R == 1)
		if got := RightBlock(id); got != (always || opName(id)) {
			t.Errorf("RightBlock of %v: %v", id, got)
		}
	}
}

// P3.1: a stamp is right, if its time is 1 to 2^40, and its replica 0 to 15.
func TestRightStamp(t *testing.T) {
	for _, c := range []struct {
		s    api.Stamp
		want bool
	}{
		{api.Stamp{T: 9, R: 3}, true},
		{api.Stamp{T: 0, R: 3}, false}, {api.Stamp{T: 1, R: 3}, true}, {api.Stamp{T: 1 << 40, R: 3}, true}, {api.Stamp{T: 1<<40 + 1, R: 3}, false},
		{api.Stamp{T: 1, R: -1}, false}, {api.Stamp{T: 1, R: 0}, true}, {api.Stamp{T: 1, R: 15}, true}, {api.Stamp{T: 1, R: 16}, false},
		{api.Stamp{}, false}, {api.Stamp{T: -1}, false},
	} {
		if got := RightStamp(c.s); got != c.want {
			t.Errorf("RightStamp of %v: %v", c.s, got)
		}
	}
	for _, id := range ids() {
		s := api.Stamp{T: id.N, R: id.R}
		if got := RightStamp(s); got != (between(1, s.T, topTime) && between(0, s.R, topReplica)) {
			t.Errorf("RightStamp of %v: %v", s, got)
		}
	}
}

// P3.1: a character is right, if it is the zero value, or its op is an op's name, and its number 0 to 63.
func TestRightChar(t *testing.T) {
	for _, c := range []struct {
		c    api.Char
		want bool
	}{
		{api.Char{}, true}, {api.Char{Op: api.Id{R: 2, N: 7}, I: 5}, true},
		{api.Char{Op: api.Id{N: 1}, I: -1}, false}, {api.Char{Op: api.Id{N: 1}, I: 0}, true},
		{api.Char{Op: api.Id{N: 1}, I: 63}, true}, {api.Char{Op: api.Id{N: 1}, I: 64}, false},
		{api.Char{I: 1}, false}, {api.Char{I: -1}, false}, {api.Char{Op: api.Trash}, false}, {api.Char{Op: api.Trash, I: 1}, false},
		{api.Char{Op: api.Id{R: 16, N: 1}}, false}, {api.Char{Op: api.Id{N: 1<<20 + 1}}, false},
	} {
		if got := RightChar(c.c); got != c.want {
			t.Errorf("RightChar of %v: %v", c.c, got)
		}
	}
	for _, id := range ids() {
		for _, i := range edges() {
			zero := id.R == 0 && id.N == 0 && i == 0
			if got := RightChar(api.Char{Op: id, I: i}); got != (zero || opName(id) && between(0, i, topLetter)) {
				t.Errorf("RightChar of %v, %d: %v", id, i, got)
			}
		}
	}
}

// order: -1, 0 or 1, by two numbers and then by two others.
func order(a, b, thenA, thenB int) int {
	switch {
	case a < b, a == b && thenA < thenB:
		return -1
	case a == b && thenA == thenB:
		return 0
	}
	return 1
}

// P3.1: names are in order by replica, then number.
func TestOrderIds(t *testing.T) {
	for _, c := range []struct {
		a, b api.Id
		want int
	}{
		{api.Id{R: 0, N: 9}, api.Id{R: 1, N: 1}, -1}, {api.Id{R: 1, N: 1}, api.Id{R: 0, N: 9}, 1},
		{api.Id{R: 4, N: 2}, api.Id{R: 4, N: 9}, -1}, {api.Id{R: 4, N: 9}, api.Id{R: 4, N: 2}, 1}, {api.Id{R: 4, N: 9}, api.Id{R: 4, N: 9}, 0},
		{api.Root, api.Trash, -1}, {api.Trash, api.Id{N: 5}, 1}, {api.Id{R: math.MinInt}, api.Id{R: math.MaxInt}, -1},
		{api.Id{N: math.MinInt}, api.Id{N: math.MaxInt}, -1}, {api.Id{N: math.MaxInt}, api.Id{N: math.MinInt}, 1},
	} {
		if got := OrderIds(c.a, c.b); got != c.want {
			t.Errorf("OrderIds of %v and %v: %d", c.a, c.b, got)
		}
	}
	all := ids()
	for _, a := range all {
		for _, b := range all {
			if got := OrderIds(a, b); got != order(a.R, b.R, a.N, b.N) {
				t.Fatalf("OrderIds of %v and %v: %d", a, b, got)
			}
		}
	}
}

// P3.1: stamps are in order by time, then replica.
func TestOrderStamps(t *testing.T) {
	for _, c := range []struct {
		a, b api.Stamp
		want int
	}{
		{api.Stamp{T: 1, R: 9}, api.Stamp{T: 2, R: 0}, -1}, {api.Stamp{T: 2, R: 0}, api.Stamp{T: 1, R: 9}, 1},
		{api.Stamp{T: 4, R: 2}, api.Stamp{T: 4, R: 9}, -1}, {api.Stamp{T: 4, R: 9}, api.Stamp{T: 4, R: 2}, 1}, {api.Stamp{T: 4, R: 9}, api.Stamp{T: 4, R: 9}, 0},
		{api.Stamp{T: math.MinInt}, api.Stamp{T: math.MaxInt}, -1}, {api.Stamp{R: math.MaxInt}, api.Stamp{R: math.MinInt}, 1},
	} {
		if got := OrderStamps(c.a, c.b); got != c.want {
			t.Errorf("OrderStamps of %v and %v: %d", c.a, c.b, got)
		}
	}
	all := ids()
	for _, a := range all {
		for _, b := range all {
			if got := OrderStamps(api.Stamp{T: a.R, R: a.N}, api.Stamp{T: b.R, R: b.N}); got != order(a.R, b.R, a.N, b.N) {
				t.Fatalf("OrderStamps of %v and %v (time first): %d", a, b, got)
			}
		}
	}
}

// shown: names with their texts.
func shown() map[string]api.Id {
	return map[string]api.Id{
		"root": {}, "trash": {R: 1}, "0.1": {N: 1}, "1.1": {R: 1, N: 1}, "2.1": {R: 2, N: 1}, "0.7": {N: 7}, "9.10": {R: 9, N: 10}, "10.9": {R: 10, N: 9},
		"15.1": {R: 15, N: 1}, "15.1048576": {R: 15, N: 1048576}, "0.1048576": {N: 1048576}, "7.100200": {R: 7, N: 100200},
	}
}

// P3.2: a block's name is shown, and read again.
func TestShowAndRead(t *testing.T) {
	for text, id := range shown() {
		if got := Show(id); got != text {
			t.Errorf("Show of %v: %q", id, got)
		}
		if got, ok := Read(text); got != id || !ok {
			t.Errorf("Read of %q: %v, %v", text, got, ok)
		}
	}
	for _, n := range []int{1, 2, 9, 10, 11, 99, 100, 101, 4095, 4096, 65536, topNumber - 1, topNumber} {
		for r := range topReplica + 1 {
			text, id := strconv.Itoa(r)+"."+strconv.Itoa(n), api.Id{R: r, N: n}
			if got := Show(id); got != text {
				t.Errorf("Show of %v: %q", id, got)
			}
			if got, ok := Read(text); got != id || !ok {
				t.Errorf("Read of %q: %v, %v", text, got, ok)
			}
		}
	}
}

// P3.2: what is no block's name is shown as "?".
func TestShowOfNoName(t *testing.T) {
	for _, id := range []api.Id{{R: 2}, {R: 15}, {R: 16, N: 1}, {R: -1, N: 1}, {N: -1}, {R: 1, N: -1}, {N: 1<<20 + 1}, {R: math.MinInt, N: math.MinInt}} {
		if got := Show(id); got != "?" {
			t.Errorf("Show of %v: %q", id, got)
		}
	}
	for _, id := range ids() {
		if got := Show(id); (got == "?") == RightBlock(id) {
			t.Errorf("Show of %v: %q", id, got)
		}
	}
}

// wrongTexts: texts that are nearly a block's name.
func wrongTexts() []string {
	return []string{
		"", "?", ".", "..", "0", "1", "0.", ".1", "0.0", "1.0", "2.0", "01", "0,1", "0:1", "0. 1", "0 .1", " 0.1", "0.1 ", "\t0.1", "0.1\n", "0.1\x00", "\x000.1",
		"00.1", "01.1", "0.01", "0.001", "015.1", "0.01048576", "000000000000000000000.1", "0.000000000000000000001",
		"+0.1", "-0.1", "0.+1", "0.-1", "-1.1", "+1.1", "--1.1", "1.--1", "0..1", "0.1.", ".0.1", "0.1.1", "0.1.0", "1.2.3.4",
		"16.1", "17.1", "99.1", "0.1048577", "15.1048577", "0.2097152", "0.10485760", "18446744073709551616.1", "0.18446744073709551617", "0.9223372036854775808",
		"Root", "ROOT", "root ", " root", "root.", ".root", "roo", "roots", "root.1", "0.root", "Trash", "TRASH", "trash ", " trash", "tras", "trashes", "trash.0", "trash.1",
		"a.1", "0.a", "0x0.1", "0.0x1", "0.1e1", "1e1.1", "0b1.1", "0.1_0", "1_0.1", "0.1a", "a0.1", "\xff.1", "0.\xff", "٠.1", "0.١", "0．1",
	}
}

// P3.2: what isn't the text of a block's name is not read.
func TestReadOfNoName(t *testing.T) {
	for _, text := range wrongTexts() {
		if got, ok := Read(text); got != (api.Id{}) || ok {
			t.Errorf("Read of %q: %v, %v", text, got, ok)
		}
	}
	for _, text := range []string{strings.Repeat("1", 1<<16), strings.Repeat(".", 1<<16), "0." + strings.Repeat("0", 1<<16) + "1", strings.Repeat("root", 1<<14)} {
		if got, ok := Read(text); got != (api.Id{}) || ok {
			t.Errorf("Read of %d bytes: %v, %v", len(text), got, ok)
		}
	}
}

// P3.2: of all short texts of a name's letters, just those are read that a block's name is shown as.
func TestReadOfShortTexts(t *testing.T) {
	names := map[string]api.Id{}
	for r := range topReplica + 1 {
		for n := range 1000 {
			names[strconv.Itoa(r)+"."+strconv.Itoa(n+1)] = api.Id{R: r, N: n + 1}
		}
	}
	texts := []string{""}
	for range 5 {
		var longer []string
		for _, text := range texts {
			for _, letter := range "0169.+- " {
				longer = append(longer, text+string(letter))
			}
		}
		texts = longer
		for _, text := range texts {
			want, there := names[text]
			if got, ok := Read(text); got != want || ok != there {
				t.Fatalf("Read of %q: %v, %v", text, got, ok)
			}
		}
	}
}

// clockOf: a clock of a replica.
func clockOf(t *testing.T, replica int) *Clock {
	t.Helper()
	c, wrong := NewClock(replica)
	if c == nil || wrong != api.OK {
		t.Fatalf("NewClock of %d: %v, %d", replica, c != nil, wrong)
	}
	return c
}

// tickIs reports a tick that answers another thing.
func tickIs(t *testing.T, c *Clock, id api.Id, time int, wrong api.Errno) {
	t.Helper()
	if gotId, gotTime, gotWrong := c.Tick(); gotId != id || gotTime != time || gotWrong != wrong {
		t.Errorf("Tick: %v, %d, %d; not %v, %d, %d", gotId, gotTime, gotWrong, id, time, wrong)
	}
}

// clockIs reports a clock whose time or number is another one.
func clockIs(t *testing.T, c *Clock, now, last int) {
	t.Helper()
	if c.Now() != now || c.Last() != last {
		t.Errorf("Now %d, Last %d; not %d, %d", c.Now(), c.Last(), now, last)
	}
}

// P3.3: a clock is made of a replica 0 to 15, and begins with noughts.
func TestNewClock(t *testing.T) {
	for r := range 16 {
		c := clockOf(t, r)
		clockIs(t, c, 0, 0)
		tickIs(t, c, api.Id{R: r, N: 1}, 1, api.OK)
	}
	for _, r := range edges() {
		if between(0, r, topReplica) {
			continue
		}
		if c, wrong := NewClock(r); c != nil || wrong != api.ErrRange {
			t.Errorf("NewClock of %d: %v, %d", r, c != nil, wrong)
		}
	}
}

// P3.3: the chapter's example.
func TestClockExample(t *testing.T) {
	c := clockOf(t, 2)
	tickIs(t, c, api.Id{R: 2, N: 1}, 1, api.OK)
	c.See(api.Id{R: 0, N: 7}, 9)
	clockIs(t, c, 9, 1)
	tickIs(t, c, api.Id{R: 2, N: 2}, 10, api.OK)
	clockIs(t, c, 10, 2)
}

// P3.3: both go up by one, and are told.
func TestTick(t *testing.T) {
	c := clockOf(t, 0)
	for n := 1; n <= 3000; n++ {
		tickIs(t, c, api.Id{R: 0, N: n}, n, api.OK)
		clockIs(t, c, n, n)
	}
}

// P3.3: a clock whose time is 2^40 doesn't tick, and stays as it is.
func TestTickAtTheLastTime(t *testing.T) {
	c := clockOf(t, 15)
	c.See(api.Root, 1<<40-1)
	clockIs(t, c, 1<<40-1, 0)
	tickIs(t, c, api.Id{R: 15, N: 1}, 1<<40, api.OK)
	for range 3 {
		tickIs(t, c, api.Id{}, 0, api.ErrLimit)
		clockIs(t, c, 1<<40, 1)
	}
	c.See(api.Id{R: 15, N: 1 << 20}, 1<<40)
	tickIs(t, c, api.Id{}, 0, api.ErrLimit)
	clockIs(t, c, 1<<40, 1<<20)
}

// P3.3: a clock whose number is 2^20 doesn't tick, and stays as it is.
func TestTickAtTheLastNumber(t *testing.T) {
	c := clockOf(t, 3)
	c.See(api.Id{R: 3, N: 1<<20 - 1}, 0)
	clockIs(t, c, 0, 1<<20-1)
	tickIs(t, c, api.Id{R: 3, N: 1 << 20}, 1, api.OK)
	for range 3 {
		tickIs(t, c, api.Id{}, 0, api.ErrLimit)
		clockIs(t, c, 1, 1<<20)
	}
	c.See(api.Id{R: 4, N: 9}, 1<<40)
	tickIs(t, c, api.Id{}, 0, api.ErrLimit)
	clockIs(t, c, 1<<40, 1<<20)
}

// P3.3: a clock at both bounds at once is ticked up to them, and no further.
func TestTickToBothBounds(t *testing.T) {
	c := clockOf(t, 1)
	c.See(api.Id{R: 1, N: 1<<20 - 1}, 1<<40-1)
	tickIs(t, c, api.Id{R: 1, N: 1 << 20}, 1<<40, api.OK)
	tickIs(t, c, api.Id{}, 0, api.ErrLimit)
	clockIs(t, c, 1<<40, 1<<20)
}

// P3.3: what is seen takes a clock up, and never down.
func TestSee(t *testing.T) {
	for _, c := range []struct {
		what      string
		id        api.Id
		time      int
		now, last int
	}{
		{"another replica's name", api.Id{R: 4, N: 77}, 60, 60, 20},
		{"its own name above", api.Id{R: 5, N: 77}, 60, 60, 77},
		{"its own name below", api.Id{R: 5, N: 19}, 60, 60, 20},
		{"its own name at it", api.Id{R: 5, N: 20}, 60, 60, 20},
		{"a time below", api.Id{R: 5, N: 21}, 49, 50, 21},
		{"a time at it", api.Id{R: 5, N: 21}, 50, 50, 21},
		{"a time above", api.Id{R: 5, N: 21}, 51, 51, 21},
		{"time 0", api.Id{R: 5, N: 21}, 0, 50, 21},
		{"time -1", api.Id{R: 5, N: 21}, -1, 50, 21},
		{"the least time", api.Id{R: 5, N: 21}, math.MinInt, 50, 21},
		{"time 2^40", api.Id{R: 5, N: 21}, 1 << 40, 1 << 40, 21},
		{"a time above 2^40", api.Id{R: 5, N: 21}, 1<<40 + 1, 50, 21},
		{"a time above 2^40, of another replica", api.Id{R: 6, N: 21}, 1<<40 + 1, 50, 20},
		{"the greatest time", api.Id{R: 5, N: 21}, math.MaxInt, 50, 21},
		{"number 2^20", api.Id{R: 5, N: 1 << 20}, 51, 51, 1 << 20},
		{"a number above 2^20", api.Id{R: 5, N: 1<<20 + 1}, 51, 51, 20},
		{"the greatest number", api.Id{R: 5, N: math.MaxInt}, 51, 51, 20},
		{"number 0", api.Id{R: 5}, 51, 51, 20},
		{"number -1", api.Id{R: 5, N: -1}, 51, 51, 20},
		{"root", api.Root, 51, 51, 20},
		{"trash", api.Trash, 51, 51, 20},
		{"no replica", api.Id{R: 16, N: 99}, 51, 51, 20},
		{"a replica below all", api.Id{R: -1, N: 99}, 51, 51, 20},
	} {
		clock := clockOf(t, 5)
		clock.See(api.Id{R: 5, N: 20}, 50)
		clockIs(t, clock, 50, 20)
		clock.See(c.id, c.time)
		if clock.Now() != c.now || clock.Last() != c.last {
			t.Errorf("%s: Now %d, Last %d; not %d, %d", c.what, clock.Now(), clock.Last(), c.now, c.last)
		}
	}
}

// P3.3: a clock of 0 or 1 isn't taken up by the root or the trash, but by what bears its own replica's number.
func TestSeeOfRootAndTrash(t *testing.T) {
	for r := range 2 {
		c := clockOf(t, r)
		c.See(api.Root, 3)
		c.See(api.Trash, 2)
		clockIs(t, c, 3, 0)
		c.See(api.Id{R: r, N: 1}, 1)
		clockIs(t, c, 3, 1)
	}
}

// P3.3: two clocks are apart.
func TestClocksAreApart(t *testing.T) {
	a, b := clockOf(t, 4), clockOf(t, 4)
	tickIs(t, a, api.Id{R: 4, N: 1}, 1, api.OK)
	a.See(api.Id{R: 4, N: 9}, 30)
	clockIs(t, b, 0, 0)
	tickIs(t, b, api.Id{R: 4, N: 1}, 1, api.OK)
	clockIs(t, a, 30, 9)
}

// source answers numbers that look like any, always the same ones.
func source(seed uint64) func(below int) int {
	return func(below int) int {
		seed = seed*6364136223846793005 + 1442695040888963407
		return int(seed>>33) % below
	}
}

// model is a clock by the chapter's rule, which notes the greatest that was ticked or seen.
type model struct{ replica, time, number int }

// see: a name and a time are seen.
func (m *model) see(id api.Id, time int) {
	if time <= topTime && time > m.time {
		m.time = time
	}
	if opName(id) && id.R == m.replica && id.N > m.number {
		m.number = id.N
	}
}

// tick: a name and a time, above all.
func (m *model) tick() (api.Id, int, api.Errno) {
	if m.time == topTime || m.number == topNumber {
		return api.Id{}, 0, api.ErrLimit
	}
	m.time++
	m.number++
	return api.Id{R: m.replica, N: m.number}, m.time, api.OK
}

// P3.4: what is ticked is above all that was ticked or seen ahead of it, whatever was.
func TestTickIsAboveAll(t *testing.T) {
	next := source(5)
	times := edges()
	for round := range 400 {
		m := &model{replica: round % 16}
		c := clockOf(t, m.replica)
		for range 60 {
			id, time := api.Id{R: next(18) - 1, N: next(40) - 2}, next(60)-5
			if next(40) == 0 {
				id, time = api.Id{R: m.replica, N: times[next(len(times))]}, times[next(len(times))]
			}
			if next(2) == 0 {
				c.See(id, time)
				m.see(id, time)
			} else {
				wantId, wantTime, wantWrong := m.tick()
				tickIs(t, c, wantId, wantTime, wantWrong)
			}
			clockIs(t, c, m.time, m.number)
		}
	}
}

// stamped is a name with its time.
type stamped struct {
	id   api.Id
	time int
}

// byMany: what so many tick at once, so many times each, each with what it does ahead of a tick.
func byMany(c *Clock, many, times int, ahead func(who, turn int)) [][]stamped {
	all := make([][]stamped, many)
	var begin, end sync.WaitGroup
	begin.Add(1)
	for who := range many {
		end.Go(func() {
			begin.Wait()
			for turn := range times {
				ahead(who, turn)
				if id, time, wrong := c.Tick(); wrong == api.OK {
					all[who] = append(all[who], stamped{id, time})
				}
			}
		})
	}
	begin.Done()
	end.Wait()
	return all
}

// inOrder reports names and times, ticked by many at once, of which one is there twice, or isn't above those ahead of it.
func inOrder(t *testing.T, replica int, all [][]stamped) []stamped {
	t.Helper()
	higher := func(a, b stamped) bool { return a.id.N < b.id.N && a.time < b.time }
	for who, list := range all {
		for i := 1; i < len(list); i++ {
			if !higher(list[i-1], list[i]) {
				t.Fatalf("%d ticked %v, and behind it %v", who, list[i-1], list[i])
			}
		}
	}
	one := slices.Concat(all...)
	slices.SortFunc(one, func(a, b stamped) int { return cmp.Compare(a.id.N, b.id.N) })
	for i, s := range one {
		if s.id.R != replica {
			t.Fatalf("ticked %v", s)
		}
		if i > 0 && !higher(one[i-1], s) {
			t.Fatalf("ticked %v and %v", one[i-1], s)
		}
	}
	return one
}

// P3.3, P3.4: a clock may be asked by several at once: no name or time is told twice, and none is left out.
func TestTickedByMany(t *testing.T) {
	const many, times = 16, 4000
	c := clockOf(t, 6)
	one := inOrder(t, 6, byMany(c, many, times, func(who, turn int) {}))
	if len(one) != many*times {
		t.Fatalf("%d ticks", len(one))
	}
	for i, s := range one {
		if s != (stamped{api.Id{R: 6, N: i + 1}, i + 1}) {
			t.Fatalf("tick %d: %v", i, s)
		}
	}
	clockIs(t, c, many*times, many*times)
}

// P3.3, P3.4: what is ticked is above what the same one has seen ahead of it, while others tick and see.
func TestTickedAndSeenByMany(t *testing.T) {
	const many, times = 16, 2000
	c := clockOf(t, 7)
	seen := make([][]stamped, many)
	all := byMany(c, many, times, func(who, turn int) {
		s := stamped{api.Id{R: 7, N: c.Last() + 2 + who%3}, c.Now() + 5 + who%7}
		if turn%2 == 0 {
			s.id.R = 8
		}
		c.See(s.id, s.time)
		seen[who] = append(seen[who], s)
	})
	one := inOrder(t, 7, all)
	if len(one) != many*times {
		t.Fatalf("%d ticks", len(one))
	}
	for who, list := range all {
		for turn, s := range list {
			if was := seen[who][turn]; s.time <= was.time || was.id.R == 7 && s.id.N <= was.id.N {
				t.Fatalf("%d saw %v and ticked %v", who, was, s)
			}
		}
	}
	top := one[len(one)-1]
	if c.Now() != top.time || c.Last() != top.id.N {
		t.Errorf("Now %d, Last %d behind %v", c.Now(), c.Last(), top)
	}
}

// P3.3: a clock that many tick at once goes up to its bounds and no further.
func TestTickedByManyToTheBounds(t *testing.T) {
	const room = 200
	for round := range 50 {
		c := clockOf(t, 9)
		if round%2 == 0 {
			c.See(api.Id{R: 9, N: topNumber - room}, 1)
		} else {
			c.See(api.Id{R: 9, N: 1}, topTime-room)
		}
		now, last := c.Now(), c.Last()
		one := inOrder(t, 9, byMany(c, 8, room, func(who, turn int) {}))
		if len(one) != room {
			t.Fatalf("%d ticks", len(one))
		}
		clockIs(t, c, now+room, last+room)
		tickIs(t, c, api.Id{}, 0, api.ErrLimit)
	}
}

// P3.3: a tick takes both up at once: nobody sees it half done, and nobody sees a clock go down.
func TestAskedByMany(t *testing.T) {
	const many = 4
	c := clockOf(t, 10)
	stop := make(chan struct{})
	var asking sync.WaitGroup
	for range many {
		asking.Go(func() {
			for {
				first, then, last := c.Now(), c.Last(), c.Now()
				if first > then || then > last {
					t.Errorf("Now %d, Last %d, Now %d of a clock that is only ticked", first, then, last)
					return
				}
				select {
				case <-stop:
					return
				default:
				}
			}
		})
	}
	byMany(c, many, 20000, func(who, turn int) {})
	close(stop)
	asking.Wait()
	clockIs(t, c, many*20000, many*20000)
}

// P1: no call panics, whatever it is given; and none answers what isn't so.
func TestAnyArguments(t *testing.T) {
	clocks := []*Clock{clockOf(t, 0), clockOf(t, 15)}
	all := ids()
	for _, id := range all {
		RightOp(id)
		RightBlock(id)
		RightStamp(api.Stamp{T: id.N, R: id.R})
		RightChar(api.Char{Op: id, I: id.R})
		OrderIds(id, all[0])
		OrderStamps(api.Stamp{T: id.N, R: id.R}, api.Stamp{T: id.R, R: id.N})
		Read(Show(id))
		for _, c := range clocks {
			c.See(id, id.R)
			c.See(id, id.N)
			id, time, wrong := c.Tick()
			if wrong == api.OK && (!RightOp(id) || !RightStamp(api.Stamp{T: time, R: id.R})) {
				t.Errorf("Tick: %v, %d", id, time)
			}
			if !between(0, c.Now(), topTime) || !between(0, c.Last(), topNumber) {
				t.Errorf("Now %d, Last %d", c.Now(), c.Last())
			}
		}
	}
	next := source(7)
	for range 20000 {
		b := make([]byte, next(12))
		for i := range b {
			b[i] = "0123456789.rotash+- \xff"[next(21)]
		}
		if id, ok := Read(string(b)); ok && Show(id) != string(b) || !ok && id != (api.Id{}) {
			t.Errorf("Read of %q: %v, %v", b, id, ok)
		}
	}
}
