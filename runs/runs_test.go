package runs

import (
	"math"
	"slices"
	"strconv"
	"strings"
	"testing"
	"unsafe"

	"offshoot/api"
)

// The chapters' numbers, written out.
const (
	replicas = 16
	topOp    = 1048576
	most     = 64
)

// ---- helpers ----

func id(r, n int) api.Id { return api.Id{R: r, N: n} }

func char(r, n, i int) api.Char { return api.Char{Op: id(r, n), I: i} }

func cut(r, n, from, to int) api.Cut { return api.Cut{Op: id(r, n), From: from, To: to} }

// item: characters of an op, with numbers from from on.
func item(r, n, from int, text string) api.Item {
	return api.Item{Op: id(r, n), From: from, Len: len(text), Text: text}
}

// gone: the same ones, gone.
func gone(x api.Item) api.Item {
	x.Gone = true
	return x
}

// mark: the same one, a mark.
func mark(x api.Item) api.Item {
	x.Mark = true
	return x
}

// letters: so many bytes, each another one.
func letters(count int) string {
	var text []byte
	for i := range count {
		text = append(text, byte('!'+i))
	}
	return string(text)
}

// shown: an item as text: 0.1:2=cd, with "-" ahead of it where it is gone, and "#" where it is a mark.
func shown(x api.Item) string {
	text := strconv.Itoa(x.Op.R) + "." + strconv.Itoa(x.Op.N) + ":" + strconv.Itoa(x.From) + "=" + x.Text
	if x.Mark {
		text = "#" + text
	}
	if x.Gone {
		text = "-" + text
	}
	return text
}

// shownAll: items as text.
func shownAll(list []api.Item) string {
	var texts []string
	for _, x := range list {
		texts = append(texts, shown(x))
	}
	return strings.Join(texts, " ")
}

// row: the row to which the items are put one behind the other.
func row(t *testing.T, items ...api.Item) *Row {
	t.Helper()
	w := New()
	for _, x := range items {
		puts(t, w, w.Len(), x, api.OK)
	}
	return w
}

// puts: what Put answers.
func puts(t *testing.T, w *Row, at int, x api.Item, want api.Errno) {
	t.Helper()
	if got := w.Put(at, x); got != want {
		t.Errorf("Put of %s (Len %d) at %d: %d, not %d", shown(x), x.Len, at, int(got), int(want))
	}
}

// refuses: Put answers that error, and the row is what it was.
func refuses(t *testing.T, w *Row, at int, x api.Item, want api.Errno) {
	t.Helper()
	before := w.Runs()
	puts(t, w, at, x, want)
	is(t, w, before...)
}

// cuts: how many Cut tells.
func cuts(t *testing.T, w *Row, c api.Cut, want int) {
	t.Helper()
	if got := w.Cut(c); got != want {
		t.Errorf("Cut of %+v: %d, not %d", c, got, want)
	}
}

// finds: Find tells that place.
func finds(t *testing.T, w *Row, c api.Char, want int) {
	t.Helper()
	if got, ok := w.Find(c); got != want || !ok {
		t.Errorf("Find of %+v: %d, %v, not %d", c, got, ok, want)
	}
}

// lacks: Find tells that it isn't there.
func lacks(t *testing.T, w *Row, c api.Char) {
	t.Helper()
	if got, ok := w.Find(c); got != 0 || ok {
		t.Errorf("Find of %+v: %d, %v, though it isn't there", c, got, ok)
	}
}

// empty: At tells that there is none.
func empty(t *testing.T, w *Row, i int) {
	t.Helper()
	if got, ok := w.At(i); got != (api.Item{}) || ok {
		t.Errorf("At %d: %+v, %v, though there is none", i, got, ok)
	}
}

// is: has the row just these runs, and does each call tell of them what it should?
func is(t *testing.T, w *Row, want ...api.Item) {
	t.Helper()
	if got := w.Runs(); !slices.Equal(got, want) {
		t.Errorf("Runs: %s, not %s (%+v)", shownAll(got), shownAll(want), got)
	}
	place, live, text := 0, 0, ""
	for _, x := range want {
		for i := range x.Len {
			one := api.Item{Op: x.Op, From: x.From + i, Len: 1, Gone: x.Gone, Mark: x.Mark, Text: x.Text[i : i+1]}
			if got, ok := w.At(place); got != one || !ok {
				t.Errorf("At %d: %+v, %v, not %+v", place, got, ok, one)
			}
			finds(t, w, api.Char{Op: x.Op, I: x.From + i}, place)
			place++
		}
		if !x.Gone && !x.Mark {
			live += x.Len
			text += x.Text
		}
	}
	if w.Len() != place || w.Live() != live || w.Text() != text {
		t.Errorf("Len %d, Live %d, Text %q, not %d, %d, %q", w.Len(), w.Live(), w.Text(), place, live, text)
	}
	for _, i := range []int{math.MinInt, -1, place, place + 1, math.MaxInt} {
		empty(t, w, i)
	}
}

// wrongIds: no op's names.
func wrongIds() []api.Id {
	return []api.Id{
		{}, id(1, 0), id(2, 0), id(-1, 1), id(replicas, 1), id(0, -1), id(0, topOp+1),
		id(math.MinInt, 1), id(math.MaxInt, 1), id(0, math.MinInt), id(0, math.MaxInt),
	}
}

// ---- the chapter's example ----

// P10.2: "abc" of 0.1, Cut of its "b": the runs "a", "b" (gone), "c".
func TestExample(t *testing.T) {
	w := row(t, item(0, 1, 0, "abc"))
	cuts(t, w, cut(0, 1, 1, 2), 1)
	is(t, w, item(0, 1, 0, "a"), gone(item(0, 1, 1, "b")), item(0, 1, 2, "c"))
}

// ---- P10.1: New ----

// P10.1: New answers a row without characters, each time another one.
func TestNew(t *testing.T) {
	first, second := New(), New()
	is(t, first)
	puts(t, first, 0, item(0, 1, 0, "abc"), api.OK)
	is(t, first, item(0, 1, 0, "abc"))
	is(t, second)
	puts(t, second, 0, item(0, 1, 1, "x"), api.OK)
	is(t, first, item(0, 1, 0, "abc"))
}

// ---- P10.1: Put ----

// P10.1: characters of each kind come to be there as they were told.
func TestPut(t *testing.T) {
	for _, x := range []api.Item{
		item(0, 1, 0, "abc"), item(3, 7, 5, "q"), item(0, 1, 0, "\x00\xff\x80"),
		gone(item(0, 1, 0, "abc")), gone(item(0, 2, 9, "x")),
		mark(item(0, 1, 0, "\x00")), mark(item(0, 1, 63, "m")), gone(mark(item(4, 4, 4, "m"))),
		item(replicas-1, topOp, 0, "z"), item(0, topOp, 63, "z"), item(replicas-1, 1, 0, "z"),
	} {
		is(t, row(t, x), x)
	}
}

// P10.1: at each place of a row, from 0 to Len: at a run's beginning, within, at its end, and at both ends of the row.
func TestPutAtEachPlace(t *testing.T) {
	for at, want := range [][]api.Item{
		{item(2, 1, 0, "xy"), item(0, 1, 0, "abc"), item(1, 1, 0, "d")},
		{item(0, 1, 0, "a"), item(2, 1, 0, "xy"), item(0, 1, 1, "bc"), item(1, 1, 0, "d")},
		{item(0, 1, 0, "ab"), item(2, 1, 0, "xy"), item(0, 1, 2, "c"), item(1, 1, 0, "d")},
		{item(0, 1, 0, "abc"), item(2, 1, 0, "xy"), item(1, 1, 0, "d")},
		{item(0, 1, 0, "abc"), item(1, 1, 0, "d"), item(2, 1, 0, "xy")},
	} {
		w := row(t, item(0, 1, 0, "abc"), item(1, 1, 0, "d"))
		puts(t, w, at, item(2, 1, 0, "xy"), api.OK)
		is(t, w, want...)
	}
}

// P10.1: there is no place below 0 and none behind Len, of no row.
func TestPutOutOfRange(t *testing.T) {
	for _, items := range [][]api.Item{
		nil,
		{item(0, 1, 0, "a")},
		{item(0, 1, 0, "abc"), mark(item(0, 2, 0, "m")), gone(item(0, 3, 0, "xyz"))},
	} {
		w := row(t, items...)
		for _, at := range []int{math.MinInt, -2, -1, w.Len() + 1, w.Len() + 2, math.MaxInt} {
			refuses(t, w, at, item(9, 1, 0, "q"), api.ErrRange)
		}
		puts(t, w, w.Len(), item(9, 1, 0, "q"), api.OK)
		puts(t, w, 0, item(9, 2, 0, "q"), api.OK)
	}
}

// P10.1: what isn't an op's name has no characters.
func TestPutOfNoOp(t *testing.T) {
	w := row(t, item(0, 1, 0, "abc"))
	for _, name := range wrongIds() {
		refuses(t, w, 1, api.Item{Op: name, Len: 1, Text: "x"}, api.ErrForm)
	}
}

// P10.1: there are 1 to 64.
func TestPutLen(t *testing.T) {
	for _, count := range []int{1, 2, most - 1, most} {
		is(t, row(t, item(0, 1, 0, letters(count))), item(0, 1, 0, letters(count)))
	}
	w := row(t, item(0, 1, 0, "abc"))
	refuses(t, w, 0, item(0, 2, 0, ""), api.ErrForm)
	refuses(t, w, 0, item(0, 2, 0, letters(most+1)), api.ErrForm)
	for _, count := range []int{math.MinInt, -most, -1, 0, 65, 66, math.MaxInt} {
		refuses(t, w, 0, api.Item{Op: id(0, 2), Len: count, Text: "x"}, api.ErrForm)
		refuses(t, w, 0, api.Item{Op: id(0, 2), Len: count}, api.ErrForm)
	}
}

// P10.1: numbers are 0 to 63: From isn't below 0, and From + Len not above 64, even where it doesn't fit.
func TestPutFrom(t *testing.T) {
	for count := 1; count <= most; count++ {
		x := item(0, 1, most-count, letters(count))
		is(t, row(t, x), x)
		for _, from := range []int{math.MinInt, math.MinInt + 1, -most, -count, -1, most - count + 1, most, most + 1, math.MaxInt - count, math.MaxInt - count + 1, math.MaxInt} {
			refuses(t, New(), 0, item(0, 1, from, letters(count)), api.ErrForm)
		}
	}
}

// P10.1: there are as many bytes as characters.
func TestPutText(t *testing.T) {
	w := row(t, item(0, 1, 0, "abc"))
	for count := 1; count <= most; count++ {
		for size := range most + 2 {
			if size != count {
				refuses(t, w, 3, api.Item{Op: id(0, 2), Len: count, Text: letters(size)}, api.ErrForm)
			}
		}
	}
}

// P10.1: a mark is one character.
func TestPutMark(t *testing.T) {
	w := New()
	for count := 2; count <= most; count++ {
		refuses(t, w, 0, mark(item(0, 1, 0, letters(count))), api.ErrForm)
		refuses(t, w, 0, gone(mark(item(0, 1, 0, letters(count)))), api.ErrForm)
	}
	puts(t, w, 0, mark(item(0, 1, 0, "m")), api.OK)
	is(t, w, mark(item(0, 1, 0, "m")))
}

// P10.1: no name is there twice, whether what is there is gone, a mark or neither, wherever it stands, and whichever of the new ones it is: the first, one between, or the last.
func TestPutThere(t *testing.T) {
	for _, there := range []api.Item{
		item(0, 1, 10, "k"), gone(item(0, 1, 10, "k")), mark(item(0, 1, 10, "k")), gone(mark(item(0, 1, 10, "k"))),
	} {
		w := row(t, item(5, 1, 0, "abc"), there, item(5, 1, 3, "def"))
		for from := range 20 {
			for count := 1; count <= 20; count++ {
				if from > 10 || from+count <= 10 {
					continue
				}
				for _, at := range []int{0, 3, 7} {
					refuses(t, w, at, item(0, 1, from, letters(count)), api.ErrThere)
					refuses(t, w, at, gone(item(0, 1, from, letters(count))), api.ErrThere)
				}
			}
		}
		refuses(t, w, 0, mark(item(0, 1, 10, "k")), api.ErrThere)
		puts(t, w, 0, item(0, 1, 0, letters(10)), api.OK)
		puts(t, w, 17, item(0, 1, 11, letters(20)), api.OK)
	}
}

// P10.1: of a run each character is there, and of the same numbers of other ops none is.
func TestPutThereOfRun(t *testing.T) {
	w := row(t, item(0, 1, 4, "abcd"))
	for from := range 12 {
		for count := 1; count <= 12; count++ {
			if from < 8 && from+count > 4 {
				refuses(t, w, 2, item(0, 1, from, letters(count)), api.ErrThere)
			}
		}
	}
	for _, name := range []api.Id{id(0, 2), id(1, 1), id(1, 2)} {
		w := row(t, item(0, 1, 4, "abcd"))
		x := item(name.R, name.N, 4, "abcd")
		puts(t, w, 4, x, api.OK)
		is(t, w, item(0, 1, 4, "abcd"), x)
	}
}

// P10.1: where several errors hold, ErrForm comes first, then ErrRange, then ErrThere.
func TestPutSeveral(t *testing.T) {
	w := row(t, item(0, 1, 0, "abc"))
	refuses(t, w, 4, mark(item(0, 1, 0, "ab")), api.ErrForm)
	refuses(t, w, -1, api.Item{Op: id(0, 1), Len: 1}, api.ErrForm)
	refuses(t, w, 4, item(0, 0, 0, "a"), api.ErrForm)
	refuses(t, w, 4, item(0, 1, -1, "ab"), api.ErrForm)
	refuses(t, w, 1, item(0, 1, 0, letters(65)), api.ErrForm)
	refuses(t, w, 1, item(0, 1, 2, letters(63)), api.ErrForm)
	refuses(t, w, 1, api.Item{Op: id(0, 1), Len: 2, Text: "a"}, api.ErrForm)
	refuses(t, w, 4, item(0, 1, 0, "a"), api.ErrRange)
	refuses(t, w, -1, item(0, 1, 2, "cd"), api.ErrRange)
	refuses(t, w, 3, item(0, 1, 2, "cd"), api.ErrThere)
}

// P10.1: Left and Right don't count, whether they are right ones or not: they aren't told again, and part no run.
func TestPutLeftRight(t *testing.T) {
	for _, c := range []api.Char{char(0, 1, 0), char(3, 4, 5), char(-1, 0, -7), {I: math.MaxInt}} {
		w := New()
		for i, x := range []api.Item{item(0, 2, 0, "ab"), item(0, 2, 2, "cd"), gone(item(0, 2, 4, "ef"))} {
			x.Left, x.Right = c, char(5, 5, 5)
			puts(t, w, 2*i, x, api.OK)
		}
		is(t, w, item(0, 2, 0, "abcd"), gone(item(0, 2, 4, "ef")))
	}
}

// ---- the fewest runs, behind a Put ----

// P10.1: what comes to stand beside characters with which it is one run is one with them: on the left, on the right, and on both sides.
func TestPutJoins(t *testing.T) {
	for _, as := range []func(api.Item) api.Item{func(x api.Item) api.Item { return x }, gone} {
		x, y := as(item(9, 1, 0, "x")), as(item(9, 2, 0, "y"))
		w := row(t, x, as(item(0, 1, 5, "ab")), y)
		puts(t, w, 3, as(item(0, 1, 7, "cd")), api.OK)
		is(t, w, x, as(item(0, 1, 5, "abcd")), y)
		puts(t, w, 1, as(item(0, 1, 3, "ef")), api.OK)
		is(t, w, x, as(item(0, 1, 3, "efabcd")), y)
		w = row(t, x, as(item(0, 1, 0, "ab")), as(item(0, 1, 4, "ef")), y)
		puts(t, w, 3, as(item(0, 1, 2, "cd")), api.OK)
		is(t, w, x, as(item(0, 1, 0, "abcdef")), y)
	}
}

// P10.1: at the row's ends, too.
func TestPutJoinsAtEnds(t *testing.T) {
	w := row(t, item(0, 1, 2, "c"))
	puts(t, w, 0, item(0, 1, 1, "b"), api.OK)
	puts(t, w, 2, item(0, 1, 3, "d"), api.OK)
	puts(t, w, 0, item(0, 1, 0, "a"), api.OK)
	puts(t, w, 4, item(0, 1, 4, letters(60)), api.OK)
	is(t, w, item(0, 1, 0, "abcd"+letters(60)))
}

// P10.1: a run is 64 characters at most, put one by one from either end, or all even numbers ahead of the odd ones.
func TestPutOneByOne(t *testing.T) {
	text := letters(most)
	one := func(i int) api.Item { return item(0, 1, i, text[i:i+1]) }
	forward, backward, even := New(), New(), New()
	for i := range most {
		puts(t, forward, i, one(i), api.OK)
		puts(t, backward, 0, one(most-1-i), api.OK)
		if i%2 == 0 {
			puts(t, even, i/2, one(i), api.OK)
		}
	}
	if got := len(even.Runs()); got != most/2 {
		t.Errorf("%d runs of those whose numbers don't follow one another", got)
	}
	for i := 1; i < most; i += 2 {
		puts(t, even, i, one(i), api.OK)
	}
	for _, w := range []*Row{forward, backward, even} {
		is(t, w, item(0, 1, 0, text))
	}
}

// P10.1: what is put within a run parts it, though it is of the same op.
func TestPutParts(t *testing.T) {
	for _, as := range []func(api.Item) api.Item{func(x api.Item) api.Item { return x }, gone} {
		w := row(t, as(item(0, 1, 4, "abcd")))
		puts(t, w, 2, item(0, 1, 8, "e"), api.OK)
		is(t, w, as(item(0, 1, 4, "ab")), item(0, 1, 8, "e"), as(item(0, 1, 6, "cd")))
		puts(t, w, 1, as(item(0, 1, 3, "f")), api.OK)
		is(t, w, as(item(0, 1, 4, "a")), as(item(0, 1, 3, "f")), as(item(0, 1, 5, "b")), item(0, 1, 8, "e"), as(item(0, 1, 6, "cd")))
		puts(t, w, 5, as(item(0, 1, 9, "g")), api.OK)
		is(t, w, as(item(0, 1, 4, "a")), as(item(0, 1, 3, "f")), as(item(0, 1, 5, "b")), item(0, 1, 8, "e"), as(item(0, 1, 6, "c")), as(item(0, 1, 9, "g")), as(item(0, 1, 7, "d")))
	}
}

// P10.1: neighbours that can't be one run are two: of other ops, with numbers that don't follow one another, one gone and the other not, one or both a mark.
func TestPutApart(t *testing.T) {
	for _, pair := range [][2]api.Item{
		{item(0, 1, 0, "ab"), item(0, 2, 2, "cd")},
		{item(0, 1, 0, "ab"), item(1, 1, 2, "cd")},
		{item(0, 1, 0, "ab"), item(0, 1, 3, "cd")},
		{item(0, 1, 2, "ab"), item(0, 1, 0, "cd")},
		{item(0, 1, 0, "ab"), gone(item(0, 1, 2, "cd"))},
		{gone(item(0, 1, 0, "ab")), item(0, 1, 2, "cd")},
		{mark(item(0, 1, 0, "a")), item(0, 1, 1, "b")},
		{item(0, 1, 0, "a"), mark(item(0, 1, 1, "b"))},
		{mark(item(0, 1, 0, "a")), mark(item(0, 1, 1, "b"))},
		{gone(mark(item(0, 1, 0, "a"))), gone(mark(item(0, 1, 1, "b")))},
		{gone(mark(item(0, 1, 0, "a"))), gone(item(0, 1, 1, "b"))},
		{gone(item(0, 1, 0, "a")), gone(mark(item(0, 1, 1, "b")))},
	} {
		is(t, row(t, pair[0], pair[1]), pair[0], pair[1])
		w := row(t, pair[1])
		puts(t, w, 0, pair[0], api.OK)
		is(t, w, pair[0], pair[1])
	}
}

// ---- P10.2 ----

// whole: a row of several ops' characters, parts of which stand apart.
func whole(t *testing.T) *Row {
	t.Helper()
	return row(t,
		item(0, 1, 0, "ab"), item(1, 1, 0, "xy"), gone(item(0, 1, 4, "ef")), mark(item(0, 2, 0, "m")),
		item(0, 1, 2, "cd"), item(1, 1, 2, "z"), item(0, 1, 6, "gh"))
}

// P10.2: of each op, from each number up to each other one, on all characters of the row.
func TestCutEach(t *testing.T) {
	for from := -2; from <= 10; from++ {
		for to := -2; to <= 10; to++ {
			w := whole(t)
			var want []api.Item
			count, all := 0, w.Len()
			for i := range all {
				x, _ := w.At(i)
				if x.Op == id(0, 1) && from <= x.From && x.From < to && !x.Gone {
					count++
					x.Gone = true
				}
				want = append(want, x)
			}
			cuts(t, w, cut(0, 1, from, to), count)
			for i := range all {
				if x, ok := w.At(i); x != want[i] || !ok {
					t.Errorf("Cut from %d to %d: At %d: %+v, not %+v", from, to, i, x, want[i])
				}
			}
			cuts(t, w, cut(0, 1, from, to), 0)
		}
	}
}

// P10.2: parts of several runs that stand apart are cut, and told together; what is gone already isn't told.
func TestCutParts(t *testing.T) {
	w := whole(t)
	cuts(t, w, cut(0, 1, 1, 7), 4)
	is(t, w, item(0, 1, 0, "a"), gone(item(0, 1, 1, "b")), item(1, 1, 0, "xy"), gone(item(0, 1, 4, "ef")), mark(item(0, 2, 0, "m")),
		gone(item(0, 1, 2, "cd")), item(1, 1, 2, "z"), gone(item(0, 1, 6, "g")), item(0, 1, 7, "h"))
	cuts(t, w, cut(0, 1, 0, 8), 2)
	cuts(t, w, cut(1, 1, 1, 3), 2)
	is(t, w, gone(item(0, 1, 0, "ab")), item(1, 1, 0, "x"), gone(item(1, 1, 1, "y")), gone(item(0, 1, 4, "ef")), mark(item(0, 2, 0, "m")),
		gone(item(0, 1, 2, "cd")), gone(item(1, 1, 2, "z")), gone(item(0, 1, 6, "gh")))
}

// P10.2: the beginning, the middle and the end of one run.
func TestCutOfRun(t *testing.T) {
	for _, c := range []struct {
		from, to, count int
		want            []api.Item
	}{
		{3, 4, 1, []api.Item{gone(item(0, 1, 3, "a")), item(0, 1, 4, "bcd")}},
		{3, 5, 2, []api.Item{gone(item(0, 1, 3, "ab")), item(0, 1, 5, "cd")}},
		{4, 6, 2, []api.Item{item(0, 1, 3, "a"), gone(item(0, 1, 4, "bc")), item(0, 1, 6, "d")}},
		{6, 7, 1, []api.Item{item(0, 1, 3, "abc"), gone(item(0, 1, 6, "d"))}},
		{3, 7, 4, []api.Item{gone(item(0, 1, 3, "abcd"))}},
		{2, 8, 4, []api.Item{gone(item(0, 1, 3, "abcd"))}},
		{0, 3, 0, []api.Item{item(0, 1, 3, "abcd")}},
		{7, 9, 0, []api.Item{item(0, 1, 3, "abcd")}},
	} {
		w := row(t, item(0, 1, 3, "abcd"))
		cuts(t, w, cut(0, 1, c.from, c.to), c.count)
		is(t, w, c.want...)
	}
}

// P10.2: From below 0 and To above 64 are as good as those, however far.
func TestCutWide(t *testing.T) {
	for _, from := range []int{math.MinInt, -65, -1, 0} {
		for _, to := range []int{64, 65, 66, math.MaxInt} {
			w := row(t, item(0, 1, 0, letters(most)), item(0, 2, 0, "b"))
			cuts(t, w, cut(0, 1, from, to), most)
			is(t, w, gone(item(0, 1, 0, letters(most))), item(0, 2, 0, "b"))
		}
	}
}

// P10.2: with To at From or below nothing is cut.
func TestCutNothing(t *testing.T) {
	for _, pair := range [][2]int{
		{0, 0}, {1, 1}, {2, 1}, {3, 0}, {5, 5}, {-1, -1}, {-1, 0}, {64, 64}, {64, 0}, {math.MaxInt, math.MinInt}, {math.MinInt, math.MinInt}, {math.MaxInt, math.MaxInt}, {0, math.MinInt}, {math.MaxInt, 3},
	} {
		w := whole(t)
		before := w.Runs()
		cuts(t, w, cut(0, 1, pair[0], pair[1]), 0)
		is(t, w, before...)
	}
}

// P10.2: of an op that isn't there, and of what is no op, nothing is cut.
func TestCutOfNone(t *testing.T) {
	for _, name := range append(wrongIds(), id(0, 3), id(2, 1), id(1, 2), id(replicas-1, topOp)) {
		w := whole(t)
		before := w.Runs()
		cuts(t, w, api.Cut{Op: name, From: 0, To: 64}, 0)
		is(t, w, before...)
	}
	w := New()
	cuts(t, w, cut(0, 1, 0, 64), 0)
	is(t, w)
}

// P10.2: a mark is cut as others are, once, and stays a mark.
func TestCutMark(t *testing.T) {
	w := row(t, item(0, 1, 0, "a"), mark(item(0, 1, 1, "m")), item(0, 1, 2, "c"))
	cuts(t, w, cut(0, 1, 1, 2), 1)
	is(t, w, item(0, 1, 0, "a"), gone(mark(item(0, 1, 1, "m"))), item(0, 1, 2, "c"))
	cuts(t, w, cut(0, 1, 1, 2), 0)
	cuts(t, w, cut(0, 1, 0, 3), 2)
	is(t, w, gone(item(0, 1, 0, "a")), gone(mark(item(0, 1, 1, "m"))), gone(item(0, 1, 2, "c")))
}

// P10.2: what is cut already is told no more, and what is put as gone neither.
func TestCutAgain(t *testing.T) {
	w := row(t, item(0, 1, 0, "abc"), gone(item(0, 1, 3, "de")))
	cuts(t, w, cut(0, 1, 1, 5), 2)
	is(t, w, item(0, 1, 0, "a"), gone(item(0, 1, 1, "bcde")))
	cuts(t, w, cut(0, 1, 1, 5), 0)
	cuts(t, w, cut(0, 1, 0, 64), 1)
	cuts(t, w, cut(0, 1, 0, 64), 0)
	is(t, w, gone(item(0, 1, 0, "abcde")))
}

// P10.2: behind a Cut neighbours that could be one run are one: with those ahead of them, behind them, and on both sides.
func TestCutJoins(t *testing.T) {
	w := row(t, item(9, 1, 0, "x"), item(0, 1, 0, "abcdef"), item(9, 2, 0, "y"))
	cuts(t, w, cut(0, 1, 0, 2), 2)
	cuts(t, w, cut(0, 1, 2, 3), 1)
	is(t, w, item(9, 1, 0, "x"), gone(item(0, 1, 0, "abc")), item(0, 1, 3, "def"), item(9, 2, 0, "y"))
	cuts(t, w, cut(0, 1, 5, 6), 1)
	cuts(t, w, cut(0, 1, 4, 5), 1)
	is(t, w, item(9, 1, 0, "x"), gone(item(0, 1, 0, "abc")), item(0, 1, 3, "d"), gone(item(0, 1, 4, "ef")), item(9, 2, 0, "y"))
	cuts(t, w, cut(0, 1, 3, 4), 1)
	is(t, w, item(9, 1, 0, "x"), gone(item(0, 1, 0, "abcdef")), item(9, 2, 0, "y"))
}

// P10.2: in whatever order two parts of one run are cut, the runs are the same, the fewest.
func TestCutInEachOrder(t *testing.T) {
	for from := range 6 {
		for to := from + 1; to <= 6; to++ {
			w := row(t, item(0, 1, 0, "abcdef"))
			cuts(t, w, cut(0, 1, from, to), to-from)
			other := row(t, item(0, 1, 0, "abcdef"))
			for i := to - 1; i >= from; i-- {
				cuts(t, other, cut(0, 1, i, i+1), 1)
			}
			is(t, other, w.Runs()...)
		}
	}
}

// P10.2: what could be put beside a run that is gone is one with it when it is gone, too.
func TestCutThenPut(t *testing.T) {
	w := row(t, item(0, 1, 0, "ab"))
	cuts(t, w, cut(0, 1, 0, 64), 2)
	puts(t, w, 2, item(0, 1, 2, "cd"), api.OK)
	is(t, w, gone(item(0, 1, 0, "ab")), item(0, 1, 2, "cd"))
	cuts(t, w, cut(0, 1, 0, 64), 2)
	is(t, w, gone(item(0, 1, 0, "abcd")))
	puts(t, w, 4, gone(item(0, 1, 4, "e")), api.OK)
	is(t, w, gone(item(0, 1, 0, "abcde")))
	refuses(t, w, 0, item(0, 1, 2, "c"), api.ErrThere)
}

// ---- P10.3 ----

// P10.3: Find of the first, of one between and of the last character of a run, gone or a mark or neither.
func TestFind(t *testing.T) {
	w := whole(t)
	for i, c := range []api.Char{
		char(0, 1, 0), char(0, 1, 1), char(1, 1, 0), char(1, 1, 1), char(0, 1, 4), char(0, 1, 5), char(0, 2, 0),
		char(0, 1, 2), char(0, 1, 3), char(1, 1, 2), char(0, 1, 6), char(0, 1, 7),
	} {
		finds(t, w, c, i)
	}
	w = row(t, item(1, 1, 0, "xy"), item(0, 1, 0, letters(most)))
	for i := range most {
		finds(t, w, char(0, 1, i), 2+i)
	}
	cuts(t, w, cut(0, 1, 20, 40), 20)
	for i := range most {
		finds(t, w, char(0, 1, i), 2+i)
	}
}

// P10.3: Find of one that isn't there: another op's, and another number, however great, however small.
func TestFindNone(t *testing.T) {
	w := row(t, item(0, 1, 3, "abc"), item(0, 2, 0, letters(most)))
	for _, i := range []int{math.MinInt, math.MinInt + 1, -1, 0, 2, 6, 7, 63, 64, math.MaxInt - 1, math.MaxInt} {
		lacks(t, w, char(0, 1, i))
	}
	for _, i := range []int{math.MinInt, -1, 64, 65, math.MaxInt} {
		lacks(t, w, char(0, 2, i))
	}
	for _, name := range append(wrongIds(), id(1, 1), id(1, 2), id(0, 3)) {
		for _, i := range []int{-1, 0, 3, 64} {
			lacks(t, w, api.Char{Op: name, I: i})
			lacks(t, New(), api.Char{Op: name, I: i})
		}
	}
}

// P10.3: At each place, on both sides of each run's end, and at none.
func TestAt(t *testing.T) {
	w := whole(t)
	want := "0.1:0=a 0.1:1=b 1.1:0=x 1.1:1=y -0.1:4=e -0.1:5=f #0.2:0=m 0.1:2=c 0.1:3=d 1.1:2=z 0.1:6=g 0.1:7=h"
	var list []api.Item
	for i := range 12 {
		x, ok := w.At(i)
		if !ok || x.Len != 1 || x.Left != (api.Char{}) || x.Right != (api.Char{}) {
			t.Errorf("At %d: %+v, %v", i, x, ok)
		}
		list = append(list, x)
	}
	if got := shownAll(list); got != want {
		t.Errorf("At: %s, not %s", got, want)
	}
	for _, i := range []int{math.MinInt, -13, -12, -1, 12, 13, math.MaxInt} {
		empty(t, w, i)
	}
	for _, i := range []int{math.MinInt, -1, 0, 1, math.MaxInt} {
		empty(t, New(), i)
	}
}

// P10.3: Runs, Len, Live and Text of a row of all kinds, of marks alone, and of one all of which is gone.
func TestTold(t *testing.T) {
	for _, c := range []struct {
		w          *Row
		runs, text string
		all, live  int
	}{
		{New(), "", "", 0, 0},
		{whole(t), "0.1:0=ab 1.1:0=xy -0.1:4=ef #0.2:0=m 0.1:2=cd 1.1:2=z 0.1:6=gh", "abxycdzgh", 12, 9},
		{row(t, mark(item(0, 1, 0, "a")), mark(item(0, 1, 1, "b")), gone(mark(item(0, 2, 0, "c")))), "#0.1:0=a #0.1:1=b -#0.2:0=c", "", 3, 0},
		{row(t, gone(item(0, 1, 0, "abc")), gone(item(0, 2, 0, "d"))), "-0.1:0=abc -0.2:0=d", "", 4, 0},
		{row(t, item(0, 1, 0, "\x00\xff")), "0.1:0=\x00\xff", "\x00\xff", 2, 2},
	} {
		if got := shownAll(c.w.Runs()); got != c.runs {
			t.Errorf("Runs: %q, not %q", got, c.runs)
		}
		if c.w.Len() != c.all || c.w.Live() != c.live || c.w.Text() != c.text {
			t.Errorf("Len %d, Live %d, Text %q, not %d, %d, %q", c.w.Len(), c.w.Live(), c.w.Text(), c.all, c.live, c.text)
		}
	}
}

// P10.3: what is asked changes nothing, however often.
func TestAskedTwice(t *testing.T) {
	w := whole(t)
	before := w.Runs()
	for range 3 {
		is(t, w, before...)
	}
}

// ---- P10.4 ----

// P10.4: Runs that are changed, in their spare room too, change nothing, nor another answer; and what is done to the row changes no answer.
func TestRunsApart(t *testing.T) {
	w := whole(t)
	first, second, want := w.Runs(), w.Runs(), w.Runs()
	spare := first[:cap(first)]
	for i := range spare {
		spare[i] = api.Item{Op: id(7, 7), From: -3, Len: 99, Gone: true, Mark: true, Text: "?"}
	}
	is(t, w, want...)
	if !slices.Equal(second, want) {
		t.Errorf("two answers share memory: %s", shownAll(second))
	}
	cuts(t, w, cut(0, 1, 0, 64), 6)
	puts(t, w, 1, item(0, 5, 0, "new"), api.OK)
	if !slices.Equal(second, want) {
		t.Errorf("an answer is changed by what is done behind it: %s", shownAll(second))
	}
}

// P10.4: what At answered changes nothing when it is changed, and isn't changed by what is done.
func TestAtApart(t *testing.T) {
	w := whole(t)
	before := w.Runs()
	for i := range w.Len() {
		x, _ := w.At(i)
		x.Op, x.From, x.Len, x.Gone, x.Mark, x.Text = id(7, 7), 9, 9, !x.Gone, !x.Mark, "?"
	}
	is(t, w, before...)
	x, _ := w.At(0)
	cuts(t, w, cut(0, 1, 0, 64), 6)
	if x != item(0, 1, 0, "a") {
		t.Errorf("an answer is changed by what is done behind it: %+v", x)
	}
}

// loose: a text in memory that may be changed.
func loose(text string) (string, []byte) {
	memory := []byte(text)
	return unsafe.String(&memory[0], len(memory)), memory
}

// Rule 4: the text that is handed in isn't held on to, where it is put whole, where it is joined, and where it is refused.
func TestPutKeepsNone(t *testing.T) {
	w := New()
	var all [][]byte
	hand := func(at int, x api.Item, want api.Errno) {
		text, memory := loose(x.Text)
		x.Text = text
		puts(t, w, at, x, want)
		all = append(all, memory)
	}
	hand(0, item(0, 1, 0, "abc"), api.OK)
	hand(3, item(0, 1, 3, "def"), api.OK)
	hand(2, item(0, 2, 0, "xyz"), api.OK)
	hand(2, item(0, 2, 2, "q"), api.ErrThere)
	hand(-1, item(0, 3, 0, "q"), api.ErrRange)
	hand(0, mark(item(0, 3, 0, "qq")), api.ErrForm)
	for i, want := range []string{"abc", "def", "xyz", "q", "q", "qq"} {
		if string(all[i]) != want {
			t.Errorf("what was handed in is changed: %q, not %q", all[i], want)
		}
	}
	for _, memory := range all {
		for i := range memory {
			memory[i] = '?'
		}
	}
	is(t, w, item(0, 1, 0, "ab"), item(0, 2, 0, "xyz"), item(0, 1, 2, "cdef"))
}

// P10.4: texts that are answered are new memory: none shares any with the row, nor with another answer.
func TestTextsApart(t *testing.T) {
	w := whole(t)
	before := w.Runs()
	for i := range before {
		before[i].Text = strings.Clone(before[i].Text)
	}
	spoil := func(text string) {
		memory := unsafe.Slice(unsafe.StringData(text), len(text))
		for i := range memory {
			memory[i] = '?'
		}
	}
	for _, x := range w.Runs() {
		if x.Len > 1 {
			// Texts of one byte may stand in memory that the language keeps for all of them.
			spoil(x.Text)
		}
	}
	spoil(w.Text())
	is(t, w, before...)
}

// ---- P1 ----

// P1: every call ends and none panics, at any arguments.
func TestAnyArguments(t *testing.T) {
	numbers := []int{math.MinInt, math.MinInt + 1, -65, -1, 0, 1, 2, 5, 63, 64, 65, topOp, math.MaxInt - 1, math.MaxInt}
	for _, w := range []*Row{New(), whole(t), row(t, item(1, 1, 0, letters(most)))} {
		for _, a := range numbers {
			w.At(a)
			for _, b := range numbers {
				w.Find(char(1, 1, a))
				w.Find(char(a, b, a))
				w.Cut(cut(a, b, b, a))
				for _, n := range numbers {
					w.Put(n, item(1, 1, a, letters(min(max(b, 0), 70))))
					w.Put(0, api.Item{Op: id(1, 1), From: a, Len: b, Text: "ab", Mark: n > 0})
					w.Put(0, api.Item{Op: id(n, a), From: b, Len: 1, Text: "a"})
				}
				w.Cut(cut(1, 1, a, b))
			}
		}
		is(t, w, w.Runs()...)
	}
}
