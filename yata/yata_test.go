package yata

import (
	"math"
	"slices"
	"strconv"
	"strings"
	"testing"
	"unsafe"

	"offshoot/api"
	"offshoot/runs"
)

// The chapters' numbers, written out.
const (
	replicas = 16
	topOp    = 1048576
	topTime  = 1099511627776
	most     = 64
)

// ---- helpers ----

// none is the beginning, and the end.
var none api.Char

func id(r, n int) api.Id { return api.Id{R: r, N: n} }

func char(r, n, i int) api.Char { return api.Char{Op: id(r, n), I: i} }

func cut(r, n, from, to int) api.Cut { return api.Cut{Op: id(r, n), From: from, To: to} }

// in: an op that inserts letters.
func in(r, n int, left, right api.Char, text string) api.Op {
	return api.Op{Kind: api.KInsert, Id: id(r, n), T: n, Seg: id(9, 9), Left: left, Right: right, Text: text}
}

// split: an op that inserts a mark.
func split(r, n int, left, right api.Char) api.Op {
	return api.Op{Kind: api.KSplit, Id: id(r, n), T: n, Seg: id(9, 9), Left: left, Right: right, Parent: id(0, 0), Key: "k"}
}

// item: letters of an op, with numbers from from on.
func item(r, n, from int, text string) api.Item {
	return api.Item{Op: id(r, n), From: from, Len: len(text), Text: text}
}

// mark: an op's mark.
func mark(r, n int) api.Item {
	return api.Item{Op: id(r, n), Len: 1, Mark: true, Text: "\x00"}
}

// gone: the same ones, gone.
func gone(x api.Item) api.Item {
	x.Gone = true
	return x
}

// letters: so many bytes, each another one.
func letters(count int) string {
	var text []byte
	for i := range count {
		text = append(text, byte('!'+i))
	}
	return string(text)
}

// name: a name as text: 0.1.
func name(x api.Id) string { return strconv.Itoa(x.R) + "." + strconv.Itoa(x.N) }

// shown: items as text: 0.1:2=cd, with "-" ahead of what is gone, and "#" for a mark.
func shown(list []api.Item) string {
	var texts []string
	for _, x := range list {
		text := name(x.Op) + ":" + strconv.Itoa(x.From) + "=" + x.Text
		if x.Mark {
			text = name(x.Op) + "#"
		}
		if x.Gone {
			text = "-" + text
		}
		texts = append(texts, text)
	}
	return strings.Join(texts, " ")
}

// of: the text to which the ops are inserted, one behind the other.
func of(t *testing.T, ops ...api.Op) *Text {
	t.Helper()
	x := New()
	inserts(t, x, ops...)
	return x
}

// inserts: each of them comes to be there.
func inserts(t *testing.T, x *Text, ops ...api.Op) {
	t.Helper()
	for _, o := range ops {
		if got := x.Insert(o); got != api.OK {
			t.Errorf("Insert of %+v: %d", o, int(got))
		}
	}
}

// refuses: Insert answers that error, and the text is what it was.
func refuses(t *testing.T, x *Text, o api.Op, want api.Errno) {
	t.Helper()
	before, there := x.Runs(), x.Above(none, api.Char{Op: o.Id})
	if got := x.Insert(o); got != want {
		t.Errorf("Insert of %+v: %d, not %d", o, int(got), int(want))
	}
	is(t, x, before...)
	if got := x.Above(none, api.Char{Op: o.Id}); got != there {
		t.Errorf("a refused Insert of %+v: below the beginning: %v", o, got)
	}
}

// deletes: how many Delete tells.
func deletes(t *testing.T, x *Text, c api.Cut, want int) {
	t.Helper()
	if got := x.Delete(c); got != want {
		t.Errorf("Delete of %+v: %d, not %d", c, got, want)
	}
}

// reads: is that the text?
func reads(t *testing.T, x *Text, want string) {
	t.Helper()
	if got := x.Text(); got != want {
		t.Errorf("Text: %q, not %q (%s)", got, want, shown(x.Runs()))
	}
}

// lacks: neither Find nor Above tells that it is there.
func lacks(t *testing.T, x *Text, c api.Char) {
	t.Helper()
	if got, ok := x.Find(c); got != 0 || ok {
		t.Errorf("Find of %+v: %d, %v, though it isn't there", c, got, ok)
	}
	if x.Above(none, c) || x.Above(c, c) {
		t.Errorf("%+v is below the beginning, though it isn't there", c)
	}
}

// is: has the text just these runs, and does each call tell of them what it should?
func is(t *testing.T, x *Text, want ...api.Item) {
	t.Helper()
	if got := x.Runs(); !slices.Equal(got, want) {
		t.Errorf("Runs: %s, not %s (%+v)", shown(got), shown(want), got)
	}
	place, text := 0, ""
	for _, r := range want {
		for i := range r.Len {
			one := api.Item{Op: r.Op, From: r.From + i, Len: 1, Gone: r.Gone, Mark: r.Mark, Text: r.Text[i : i+1]}
			if got, ok := x.At(place); got != one || !ok {
				t.Errorf("At %d: %+v, %v, not %+v", place, got, ok, one)
			}
			c := api.Char{Op: r.Op, I: r.From + i}
			if got, ok := x.Find(c); got != place || !ok {
				t.Errorf("Find of %+v: %d, %v, not %d", c, got, ok, place)
			}
			if !x.Above(none, c) {
				t.Errorf("%+v isn't below the beginning", c)
			}
			place++
		}
		if !r.Gone && !r.Mark {
			text += r.Text
		}
	}
	if x.Len() != place || x.Text() != text {
		t.Errorf("Len %d, Text %q, not %d, %q", x.Len(), x.Text(), place, text)
	}
	for _, i := range []int{math.MinInt, -1, place, place + 1, math.MaxInt} {
		if got, ok := x.At(i); got != (api.Item{}) || ok {
			t.Errorf("At %d: %+v, %v, though there is none", i, got, ok)
		}
	}
	lacks(t, x, none)
}

// wrongIds: no op's names.
func wrongIds() []api.Id {
	return []api.Id{
		{}, id(1, 0), id(2, 0), id(-1, 1), id(replicas, 1), id(0, -1), id(0, topOp+1),
		id(math.MinInt, 1), id(math.MaxInt, 1), id(0, math.MinInt), id(0, math.MaxInt),
	}
}

// wrongChars: no right characters.
func wrongChars() []api.Char {
	list := []api.Char{char(0, 1, -1), char(0, 1, most), char(0, 1, math.MinInt), char(0, 1, math.MaxInt), {I: 1}, {I: -1}}
	for _, name := range wrongIds()[1:] {
		list = append(list, api.Char{Op: name})
	}
	return list
}

// ---- the chapter's example ----

// P11.1: "ac" of 0.1; 1.1 inserts "b" and 2.1 "x", both between "a" and "c": "abxc".
func TestExample(t *testing.T) {
	b := in(1, 1, char(0, 1, 0), char(0, 1, 1), "b")
	x := in(2, 1, char(0, 1, 0), char(0, 1, 1), "x")
	for _, ops := range [][]api.Op{{b, x}, {x, b}} {
		y := of(t, in(0, 1, none, none, "ac"))
		inserts(t, y, ops...)
		is(t, y, item(0, 1, 0, "a"), item(1, 1, 0, "b"), item(2, 1, 0, "x"), item(0, 1, 1, "c"))
		reads(t, y, "abxc")
	}
}

// ---- P11.1: New ----

// P11.1: New answers a text without characters, each time another one.
func TestNew(t *testing.T) {
	first, second := New(), New()
	is(t, first)
	inserts(t, first, in(0, 1, none, none, "abc"))
	is(t, first, item(0, 1, 0, "abc"))
	is(t, second)
	lacks(t, second, char(0, 1, 0))
	inserts(t, second, in(0, 1, none, none, "x"))
	is(t, first, item(0, 1, 0, "abc"))
}

// ---- P11.1: Insert's errors ----

// P11.1: an op of each kind that inserts comes to be there, up to the limits.
func TestInsert(t *testing.T) {
	for _, count := range []int{1, 2, most - 1, most} {
		is(t, of(t, in(0, 1, none, none, letters(count))), item(0, 1, 0, letters(count)))
	}
	is(t, of(t, in(0, 1, none, none, "\x00\xff\x80")), item(0, 1, 0, "\x00\xff\x80"))
	is(t, of(t, split(0, 1, none, none)), mark(0, 1))
	for _, name := range []api.Id{id(replicas-1, topOp), id(0, topOp), id(replicas-1, 1)} {
		is(t, of(t, in(name.R, name.N, none, none, "z")), item(name.R, name.N, 0, "z"))
		is(t, of(t, split(name.R, name.N, none, none)), mark(name.R, name.N))
	}
	for _, time := range []int{1, topTime} {
		o := in(0, 1, none, none, "z")
		o.T = time
		is(t, of(t, o), item(0, 1, 0, "z"))
	}
}

// wrongOps: ops of the kinds that insert, none of them right.
func wrongOps() []api.Op {
	list := []api.Op{in(0, 2, none, none, ""), in(0, 2, none, none, letters(most+1)), in(0, 2, none, none, letters(most)+letters(most))}
	with := func(change func(o *api.Op)) {
		for _, o := range []api.Op{in(0, 2, none, none, "x"), split(0, 2, none, none)} {
			change(&o)
			list = append(list, o)
		}
	}
	for _, name := range wrongIds() {
		with(func(o *api.Op) { o.Id = name })
		with(func(o *api.Op) { o.Seg = name })
	}
	for _, c := range wrongChars() {
		with(func(o *api.Op) { o.Left = c })
		with(func(o *api.Op) { o.Right = c })
	}
	for _, time := range []int{0, -1, topTime + 1, math.MinInt, math.MaxInt} {
		with(func(o *api.Op) { o.T = time })
	}
	with(func(o *api.Op) { o.Block = id(0, 1) })
	with(func(o *api.Op) { o.Flag = true })
	with(func(o *api.Op) { o.Cuts = []api.Cut{cut(0, 1, 0, 1)} })
	with(func(o *api.Op) { o.Parent = id(-1, 3) })
	with(func(o *api.Op) { o.Key += "\x00" })
	letter, parted := in(0, 2, none, none, "x"), split(0, 2, none, none)
	letter.Parent, parted.Text = id(0, 1), "\x00"
	unkeyed := split(0, 2, none, none)
	unkeyed.Key = ""
	return append(list, letter, parted, unkeyed)
}

// P11.1: what isn't a right op isn't inserted.
func TestInsertWrong(t *testing.T) {
	x := of(t, in(0, 1, none, none, "abc"))
	for _, o := range wrongOps() {
		refuses(t, x, o, api.ErrForm)
		refuses(t, New(), o, api.ErrForm)
	}
}

// P11.1: a right op of another kind has no characters, and of no kind neither.
func TestInsertOtherKinds(t *testing.T) {
	x := of(t, in(0, 1, none, none, "abc"))
	at := api.Op{Id: id(0, 2), T: 2}
	made, moved, erased, folded := at, at, at, at
	made.Kind, made.Key = api.KNew, "k"
	moved.Kind, moved.Block, moved.Key = api.KMove, id(0, 1), "k"
	erased.Kind, erased.Cuts = api.KDelete, []api.Cut{cut(0, 1, 0, 1)}
	folded.Kind, folded.Block = api.KFold, id(0, 1)
	for _, o := range []api.Op{made, moved, erased, folded} {
		refuses(t, x, o, api.ErrForm)
		o.Id = id(0, 1)
		refuses(t, x, o, api.ErrForm)
	}
	for _, kind := range []int{math.MinInt, -1, 0, api.KNew, api.KMove, api.KDelete, api.KFold, 7, 8, math.MaxInt} {
		for _, o := range []api.Op{in(0, 2, none, none, "x"), split(0, 2, none, none), {Id: id(0, 2), T: 2}, {}} {
			o.Kind = kind
			refuses(t, x, o, api.ErrForm)
		}
	}
}

// P11.1: an op's characters are there once, whatever else an op of its name says: another text, another place, another kind, names that aren't there.
func TestInsertThere(t *testing.T) {
	x := of(t, in(0, 1, none, none, "abc"), split(1, 1, char(0, 1, 0), char(0, 1, 1)))
	lost := char(7, 7, 7)
	for _, by := range []api.Id{id(0, 1), id(1, 1)} {
		for _, pair := range [][2]api.Char{
			{none, none}, {char(0, 1, 0), char(0, 1, 1)}, {char(1, 1, 0), none},
			{lost, none}, {none, lost}, {lost, lost}, {char(0, 1, 3), char(0, 1, 63)},
		} {
			for _, o := range []api.Op{
				in(by.R, by.N, pair[0], pair[1], "abc"), in(by.R, by.N, pair[0], pair[1], "x"),
				in(by.R, by.N, pair[0], pair[1], letters(most)), split(by.R, by.N, pair[0], pair[1]),
			} {
				refuses(t, x, o, api.ErrThere)
				o.T, o.Seg = topTime, id(3, 3)
				refuses(t, x, o, api.ErrThere)
			}
		}
	}
	is(t, x, item(0, 1, 0, "a"), mark(1, 1), item(0, 1, 1, "bc"))
}

// P11.1: what is gone is there.
func TestInsertThereGone(t *testing.T) {
	x := of(t, in(0, 1, none, none, "abc"), split(1, 1, char(0, 1, 0), char(0, 1, 1)))
	deletes(t, x, cut(0, 1, 0, 64), 3)
	deletes(t, x, cut(1, 1, 0, 64), 1)
	for _, by := range []api.Id{id(0, 1), id(1, 1)} {
		refuses(t, x, in(by.R, by.N, none, none, "abc"), api.ErrThere)
		refuses(t, x, split(by.R, by.N, none, none), api.ErrThere)
	}
}

// P11.1: Left and Right are noughts or there: of an op that isn't, of an op that is but hasn't so many characters, of the op itself.
func TestInsertNone(t *testing.T) {
	x := of(t, in(0, 1, none, none, "ab"), split(1, 1, char(0, 1, 0), char(0, 1, 1)))
	there := []api.Char{none, char(0, 1, 0), char(0, 1, 1), char(1, 1, 0)}
	for _, lost := range []api.Char{
		char(0, 3, 0), char(1, 2, 0), char(2, 1, 0), char(replicas-1, topOp, 63),
		char(0, 1, 2), char(0, 1, 63), char(1, 1, 1), char(1, 1, 63), char(0, 2, 0), char(0, 2, 1),
	} {
		for _, c := range there {
			refuses(t, x, in(0, 2, lost, c, "xyz"), api.ErrNone)
			refuses(t, x, in(0, 2, c, lost, "xyz"), api.ErrNone)
			refuses(t, x, split(0, 2, lost, c), api.ErrNone)
			refuses(t, x, split(0, 2, c, lost), api.ErrNone)
		}
		refuses(t, x, in(0, 2, lost, lost, "xyz"), api.ErrNone)
		refuses(t, x, split(0, 2, lost, lost), api.ErrNone)
		refuses(t, New(), in(0, 2, lost, none, "x"), api.ErrNone)
		refuses(t, New(), in(0, 2, none, lost, "x"), api.ErrNone)
	}
	for _, left := range there {
		for _, right := range there {
			y := of(t, in(0, 1, none, none, "ab"), split(1, 1, char(0, 1, 0), char(0, 1, 1)))
			inserts(t, y, in(0, 2, left, right, "xyz"), split(0, 3, left, right))
		}
	}
}

// P11.1: what was refused is inserted as soon as what it names is there.
func TestInsertLater(t *testing.T) {
	x := New()
	b := in(1, 1, char(0, 1, 0), char(0, 1, 1), "b")
	refuses(t, x, b, api.ErrNone)
	inserts(t, x, in(0, 1, none, none, "a"))
	refuses(t, x, b, api.ErrNone)
	x = of(t, in(0, 1, none, none, "ac"), b)
	reads(t, x, "abc")
}

// P11.1: where several errors hold, ErrForm comes first, then ErrThere, then ErrNone.
func TestInsertSeveral(t *testing.T) {
	lost := char(7, 7, 7)
	x := of(t, in(0, 1, none, none, "abc"))
	for _, o := range wrongOps() {
		if o.Id == id(0, 2) {
			o.Id = id(0, 1)
		}
		refuses(t, x, o, api.ErrForm)
		o.Left, o.Right = lost, lost
		if o.Kind == api.KInsert && o.Text == "" {
			refuses(t, x, o, api.ErrForm)
		}
	}
	refuses(t, x, in(0, 2, char(0, 1, -1), lost, "x"), api.ErrForm)
	refuses(t, x, in(0, 2, lost, char(0, 1, 64), "x"), api.ErrForm)
	refuses(t, x, in(0, 1, lost, lost, ""), api.ErrForm)
	refuses(t, x, api.Op{Kind: api.KFold, Id: id(0, 1), T: 1, Block: id(0, 1), Left: lost}, api.ErrForm)
	refuses(t, x, in(0, 1, lost, none, "x"), api.ErrThere)
	refuses(t, x, in(0, 1, none, lost, "x"), api.ErrThere)
	refuses(t, x, in(0, 2, lost, none, "x"), api.ErrNone)
}

// P11.1: ops that differ in Seg alone are inserted alike; the second one is there.
func TestInsertSeg(t *testing.T) {
	base := in(0, 1, none, none, "ac")
	for _, o := range []api.Op{in(1, 1, char(0, 1, 0), char(0, 1, 1), "b"), split(1, 1, char(0, 1, 0), char(0, 1, 1))} {
		want := of(t, base, o).Runs()
		for _, seg := range []api.Id{id(0, 1), id(1, 1), id(0, 2), id(replicas-1, topOp)} {
			other := o
			other.Seg = seg
			is(t, of(t, base, other), want...)
			x := of(t, base, o)
			refuses(t, x, other, api.ErrThere)
		}
	}
}

// ---- P11.1: where characters come to stand ----

// stands: the op comes to stand there, between "abc" of low, and of high, whose name is below its name and above it.
func stands(t *testing.T, left, right int, low, high string) {
	t.Helper()
	for _, c := range []struct {
		base api.Id
		want string
	}{{id(0, 1), low}, {id(2, 1), high}} {
		at := func(i int) api.Char {
			if i < 0 {
				return none
			}
			return api.Char{Op: c.base, I: i}
		}
		abc := in(c.base.R, c.base.N, none, none, "abc")
		reads(t, of(t, abc, in(1, 1, at(left), at(right), "xy")), c.want)
		y := of(t, abc, split(1, 1, at(left), at(right)))
		place, ok := y.Find(char(1, 1, 0))
		if want := strings.IndexByte(c.want, 'x'); place != want || !ok {
			t.Errorf("a mark between %d and %d: at %d, not %d", left, right, place, want)
		}
	}
}

// P11.1: between neighbours of one op, and at both ends, whatever the names.
func TestNeighbours(t *testing.T) {
	stands(t, -1, 0, "xyabc", "xyabc")
	stands(t, 0, 1, "axybc", "axybc")
	stands(t, 1, 2, "abxyc", "abxyc")
	stands(t, 2, -1, "abcxy", "abcxy")
	reads(t, of(t, in(1, 1, none, none, "xy")), "xy")
}

// P11.1: Left and Right that aren't neighbours: Left stands above Right, so that it stands just ahead of Right.
func TestApart(t *testing.T) {
	stands(t, 0, 2, "abxyc", "abxyc")
	stands(t, -1, 1, "axybc", "axybc")
	stands(t, -1, 2, "abxyc", "abxyc")
}

// P11.1: Right is the end, Left isn't the last one: beside what is on Left's right, in order by names.
func TestToTheEnd(t *testing.T) {
	stands(t, 0, -1, "abcxy", "axybc")
	stands(t, 1, -1, "abcxy", "abxyc")
	stands(t, -1, -1, "abcxy", "xyabc")
}

// P11.1: Left and Right are one and the same, or stand the other way about (Right above Left): as if Right were the end.
func TestOtherWay(t *testing.T) {
	stands(t, 0, 0, "abcxy", "axybc")
	stands(t, 1, 1, "abcxy", "abxyc")
	stands(t, 2, 2, "abcxy", "abcxy")
	stands(t, 1, 0, "abcxy", "abxyc")
	stands(t, 2, 0, "abcxy", "abcxy")
	stands(t, 2, 1, "abcxy", "abcxy")
}

// P11.1: Left and Right stand beside one another, neither above the other one.
func TestBeside(t *testing.T) {
	base := []api.Op{in(0, 1, none, none, "a"), in(1, 1, char(0, 1, 0), none, "bc"), in(2, 1, char(0, 1, 0), none, "de")}
	for _, c := range []struct {
		left, right api.Char
		want        string
	}{
		{char(1, 1, 0), char(2, 1, 0), "abcxde"},
		{char(1, 1, 1), char(2, 1, 0), "abcxde"},
		{char(1, 1, 1), char(2, 1, 1), "abcxde"},
		{char(2, 1, 1), char(1, 1, 0), "abcdex"},
		{char(2, 1, 0), char(1, 1, 1), "abcdex"},
		{char(0, 1, 0), char(2, 1, 0), "abcxde"},
		{char(0, 1, 0), char(2, 1, 1), "abcdxe"},
		{char(0, 1, 0), char(1, 1, 1), "abxcde"},
		{none, char(2, 1, 0), "abcxde"},
		{none, char(0, 1, 0), "xabcde"},
	} {
		x := of(t, base...)
		reads(t, x, "abcde")
		inserts(t, x, in(3, 1, c.left, c.right, "x"))
		reads(t, x, c.want)
	}
}

// P11.1: several ops with one Left and one Right stand in order by names, each with all its characters, of several replicas and of one.
func TestSeveral(t *testing.T) {
	ops := func(left, right api.Char) []api.Op {
		return []api.Op{
			in(1, 1, left, right, "A"), in(1, 2, left, right, "bb"), in(1, 10, left, right, letters(10)),
			split(2, 1, left, right), in(2, 3, left, right, "CD"), in(15, 2, left, right, "z"),
		}
	}
	want := []api.Item{item(1, 1, 0, "A"), item(1, 2, 0, "bb"), item(1, 10, 0, letters(10)), mark(2, 1), item(2, 3, 0, "CD"), item(15, 2, 0, "z")}
	ac := in(0, 1, none, none, "ac")
	a, c := item(0, 1, 0, "a"), item(0, 1, 1, "c")
	for _, order := range [][]int{{0, 1, 2, 3, 4, 5}, {5, 4, 3, 2, 1, 0}, {3, 0, 5, 1, 4, 2}, {2, 3, 1, 4, 0, 5}} {
		between, ahead, behind, alone := of(t, ac), of(t, ac), of(t, ac), New()
		for _, i := range order {
			inserts(t, between, ops(char(0, 1, 0), char(0, 1, 1))[i])
			inserts(t, ahead, ops(none, char(0, 1, 0))[i])
			inserts(t, behind, ops(char(0, 1, 1), none)[i])
			inserts(t, alone, ops(none, none)[i])
		}
		is(t, between, slices.Concat([]api.Item{a}, want, []api.Item{c})...)
		is(t, ahead, append(slices.Clone(want), item(0, 1, 0, "ac"))...)
		is(t, behind, append([]api.Item{item(0, 1, 0, "ac")}, want...)...)
		is(t, alone, want...)
	}
}

// P11.1: those on one side stand apart with all that is below them: what is on a later one's left stands behind an earlier one.
func TestSubtreesAtLeft(t *testing.T) {
	x := of(t, in(0, 1, none, none, "ac"), in(2, 1, char(0, 1, 0), char(0, 1, 1), "x"))
	inserts(t, x, in(0, 2, char(0, 1, 0), char(2, 1, 0), "y"), in(0, 3, char(0, 1, 0), char(0, 2, 0), "z"))
	reads(t, x, "azyxc")
	inserts(t, x, in(1, 1, char(0, 1, 0), char(0, 1, 1), "b"))
	reads(t, x, "abzyxc")
	inserts(t, x, in(3, 1, char(0, 1, 0), char(0, 1, 1), "d"))
	reads(t, x, "abzyxdc")
	inserts(t, x, in(1, 2, char(1, 1, 0), char(0, 3, 0), "e"))
	reads(t, x, "abezyxdc")
	inserts(t, x, in(2, 2, char(2, 1, 0), char(3, 1, 0), "f"), in(1, 3, char(0, 1, 0), char(0, 1, 1), "g"))
	reads(t, x, "abegzyxfdc")
}

// P11.1: what is on an earlier one's right stands ahead of a later one.
func TestSubtreesAtRight(t *testing.T) {
	x := of(t, in(0, 1, none, none, "a"), in(1, 1, char(0, 1, 0), none, "b"))
	inserts(t, x, in(0, 2, char(1, 1, 0), none, "cd"), in(1, 2, char(0, 2, 0), char(0, 2, 1), "-"))
	reads(t, x, "abc-d")
	inserts(t, x, in(2, 1, char(0, 1, 0), none, "e"))
	reads(t, x, "abc-de")
	inserts(t, x, in(0, 3, char(0, 1, 0), none, "f"))
	reads(t, x, "afbc-de")
	inserts(t, x, in(1, 3, char(0, 1, 0), none, "g"))
	reads(t, x, "afbc-dge")
	inserts(t, x, in(3, 1, none, none, "h"), in(3, 2, none, none, "i"))
	reads(t, x, "afbc-dgehi")
}

// P11.1: at an op's first character, and at its last one, as well as within.
func TestWithinAnOp(t *testing.T) {
	text := letters(most)
	for i := -1; i < most; i++ {
		left, right := none, none
		if i >= 0 {
			left = char(0, 1, i)
		}
		if i < most-1 {
			right = char(0, 1, i+1)
		}
		x := of(t, in(0, 1, none, none, text), in(1, 1, left, right, "ab"), in(2, 1, left, right, "cd"))
		reads(t, x, text[:i+1]+"abcd"+text[i+1:])
	}
}

// P11.1: beside what is gone, as if it weren't.
func TestBesideGone(t *testing.T) {
	for i := range 3 {
		x := of(t, in(0, 1, none, none, "abc"))
		deletes(t, x, cut(0, 1, i, i+1), 1)
		inserts(t, x, in(1, 1, char(0, 1, 0), char(0, 1, 1), "x"), in(1, 2, char(0, 1, 1), char(0, 1, 2), "y"), in(1, 3, none, char(0, 1, 0), "w"), in(1, 4, char(0, 1, 2), none, "z"))
		text := []byte("waxbycz")
		reads(t, x, string(slices.Delete(text, 2*i+1, 2*i+2)))
	}
	x := of(t, in(0, 1, none, none, "abc"))
	deletes(t, x, cut(0, 1, 0, 3), 3)
	inserts(t, x, in(1, 1, char(0, 1, 1), char(0, 1, 2), "x"), in(1, 2, none, none, "y"))
	is(t, x, gone(item(0, 1, 0, "ab")), item(1, 1, 0, "x"), gone(item(0, 1, 2, "c")), item(1, 2, 0, "y"))
}

// P11.1: a mark stands at each place, and characters stand at both its sides.
func TestMarks(t *testing.T) {
	for i := -1; i < 3; i++ {
		left, right := none, none
		if i >= 0 {
			left = char(0, 1, i)
		}
		if i < 2 {
			right = char(0, 1, i+1)
		}
		x := of(t, in(0, 1, none, none, "abc"), split(1, 1, left, right))
		want := []api.Item{mark(1, 1)}
		if i >= 0 {
			want = slices.Insert(want, 0, item(0, 1, 0, "abc"[:i+1]))
		}
		if i < 2 {
			want = append(want, item(0, 1, i+1, "abc"[i+1:]))
		}
		is(t, x, want...)
		reads(t, x, "abc")
		m := char(1, 1, 0)
		inserts(t, x, in(2, 1, left, m, "l"), in(2, 2, m, right, "r"))
		at := slices.Index(want, mark(1, 1))
		is(t, x, slices.Replace(want, at, at+1, item(2, 1, 0, "l"), mark(1, 1), item(2, 2, 0, "r"))...)
	}
}

// P11.1: a mark alone, marks beside one another, and a mark whose sides both are marks.
func TestMarksAlone(t *testing.T) {
	x := of(t, split(0, 1, none, none))
	is(t, x, mark(0, 1))
	inserts(t, x, split(1, 1, none, char(0, 1, 0)), split(1, 2, char(0, 1, 0), none))
	is(t, x, mark(1, 1), mark(0, 1), mark(1, 2))
	inserts(t, x, split(0, 2, char(1, 1, 0), char(0, 1, 0)), in(0, 3, char(0, 2, 0), char(0, 1, 0), "a"))
	is(t, x, mark(1, 1), mark(0, 2), item(0, 3, 0, "a"), mark(0, 1), mark(1, 2))
	reads(t, x, "a")
}

// ---- P11.2: Delete ----

// parts: a text of several ops' characters, parts of which stand apart, some gone, with a mark.
func parts(t *testing.T) *Text {
	t.Helper()
	x := of(t, in(0, 1, none, none, "abcdefgh"), in(1, 1, char(0, 1, 1), char(0, 1, 2), "xy"), split(0, 2, char(0, 1, 5), char(0, 1, 6)))
	deletes(t, x, cut(0, 1, 4, 6), 2)
	is(t, x, item(0, 1, 0, "ab"), item(1, 1, 0, "xy"), item(0, 1, 2, "cd"), gone(item(0, 1, 4, "ef")), mark(0, 2), item(0, 1, 6, "gh"))
	return x
}

// P11.2: Delete of an op's characters from each number up to each other one is layer 10's Cut.
func TestDeleteEach(t *testing.T) {
	for from := -2; from <= 10; from++ {
		for to := -2; to <= 10; to++ {
			x, w := parts(t), runs.New()
			for _, r := range x.Runs() {
				w.Put(w.Len(), r)
			}
			c := cut(0, 1, from, to)
			deletes(t, x, c, w.Cut(c))
			is(t, x, w.Runs()...)
			deletes(t, x, c, 0)
		}
	}
}

// P11.2: of none, of some, of all, of what is gone already, of marks; ends that lie outside are as good as the last ones.
func TestDelete(t *testing.T) {
	x := parts(t)
	deletes(t, x, cut(0, 1, 3, 3), 0)
	deletes(t, x, cut(0, 1, 4, 6), 0)
	deletes(t, x, cut(1, 1, 1, 2), 1)
	deletes(t, x, cut(0, 1, 3, 7), 2)
	is(t, x, item(0, 1, 0, "ab"), item(1, 1, 0, "x"), gone(item(1, 1, 1, "y")), item(0, 1, 2, "c"), gone(item(0, 1, 3, "def")), mark(0, 2), gone(item(0, 1, 6, "g")), item(0, 1, 7, "h"))
	reads(t, x, "abxch")
	deletes(t, x, cut(0, 2, 0, 1), 1)
	deletes(t, x, cut(0, 2, 0, 1), 0)
	deletes(t, x, cut(0, 1, math.MinInt, math.MaxInt), 4)
	deletes(t, x, cut(1, 1, -1, 65), 1)
	is(t, x, gone(item(0, 1, 0, "ab")), gone(item(1, 1, 0, "xy")), gone(item(0, 1, 2, "cdef")), gone(mark(0, 2)), gone(item(0, 1, 6, "gh")))
	reads(t, x, "")
}

// P11.2: of names that aren't there, and of what is no name, nothing is deleted; and it doesn't wait for them.
func TestDeleteOfNone(t *testing.T) {
	for _, by := range append(wrongIds(), id(0, 3), id(2, 1), id(1, 2), id(replicas-1, topOp)) {
		x := parts(t)
		before := x.Runs()
		deletes(t, x, api.Cut{Op: by, From: 0, To: 64}, 0)
		deletes(t, x, api.Cut{Op: by, From: math.MinInt, To: math.MaxInt}, 0)
		is(t, x, before...)
	}
	for _, pair := range [][2]int{{8, 64}, {-3, 0}, {5, 4}, {math.MaxInt, math.MinInt}, {math.MinInt, math.MinInt}, {math.MaxInt, math.MaxInt}} {
		x := parts(t)
		before := x.Runs()
		deletes(t, x, cut(0, 1, pair[0], pair[1]), 0)
		is(t, x, before...)
	}
	x := New()
	deletes(t, x, cut(0, 1, 0, 64), 0)
	inserts(t, x, in(0, 1, none, none, "ab"))
	is(t, x, item(0, 1, 0, "ab"))
}

// ---- P11.2: Above ----

// above: does Above tell so?
func above(t *testing.T, x *Text, a, b api.Char, want bool) {
	t.Helper()
	if got := x.Above(a, b); got != want {
		t.Errorf("Above of %+v and %+v: %v", a, b, got)
	}
}

// P11.2: of an op's characters each stands above all behind it, and none above itself or one ahead of it.
func TestAboveInAnOp(t *testing.T) {
	x := of(t, in(0, 1, none, none, letters(most)))
	for i := range most {
		above(t, x, none, char(0, 1, i), true)
		above(t, x, char(0, 1, i), none, false)
		for k := range most {
			above(t, x, char(0, 1, i), char(0, 1, k), i < k)
		}
	}
}

// P11.2: by the way to the beginning: Right's parents where it is the parent, Left's where that is; not by what stands ahead.
func TestAbove(t *testing.T) {
	a, d, b, c, m, e := char(0, 1, 0), char(0, 1, 1), char(1, 1, 0), char(1, 1, 1), char(2, 1, 0), char(2, 2, 0)
	x := of(t, in(0, 1, none, none, "ad"), in(1, 1, a, d, "bc"), split(2, 1, c, d), in(2, 2, a, none, "e"))
	reads(t, x, "abcde")
	ways := map[api.Char][]api.Char{a: {none}, d: {none, a}, b: {none, a, d}, c: {none, a, d, b}, m: {none, a, d, b, c}, e: {none, a}}
	check := func() {
		for under, way := range ways {
			for _, over := range []api.Char{none, a, d, b, c, m, e} {
				above(t, x, over, under, slices.Contains(way, over))
			}
		}
	}
	check()
	deletes(t, x, cut(0, 1, 0, 64), 2)
	deletes(t, x, cut(1, 1, 1, 2), 1)
	deletes(t, x, cut(2, 1, 0, 1), 1)
	check()
}

// P11.2: false of the beginning as the second one, and where one isn't there.
func TestAboveOfNone(t *testing.T) {
	x := parts(t)
	there := []api.Char{char(0, 1, 0), char(0, 1, 5), char(0, 1, 7), char(1, 1, 1), char(0, 2, 0)}
	lost := append(wrongChars(), char(0, 1, 8), char(1, 1, 2), char(0, 2, 1), char(0, 3, 0), char(2, 1, 0), char(1, 1, 63))
	for _, c := range there {
		above(t, x, none, c, true)
		above(t, x, c, none, false)
		for _, l := range lost {
			above(t, x, c, l, false)
			above(t, x, l, c, false)
			above(t, x, none, l, false)
			above(t, x, l, none, false)
			above(t, x, l, l, false)
		}
	}
	for _, y := range []*Text{x, New()} {
		above(t, y, none, none, false)
	}
	above(t, New(), none, char(0, 1, 0), false)
}

// ---- P11.2: Find, At, Runs, Len, Text ----

// P11.2: what isn't there has no place: noughts, numbers that an op hasn't, other ops, what is no character.
func TestFindNone(t *testing.T) {
	x := parts(t)
	for _, c := range append(wrongChars(), none, char(0, 1, 8), char(1, 1, 2), char(0, 2, 1), char(0, 3, 0), char(2, 1, 0)) {
		lacks(t, x, c)
		lacks(t, New(), c)
	}
}

// P11.2: runs of one op join where nothing stands between, and its characters stand in their order.
func TestRunsJoin(t *testing.T) {
	x := of(t, in(0, 1, none, none, "abcd"), in(1, 1, char(0, 1, 1), char(0, 1, 2), "x"))
	is(t, x, item(0, 1, 0, "ab"), item(1, 1, 0, "x"), item(0, 1, 2, "cd"))
	deletes(t, x, cut(0, 1, 0, 1), 1)
	is(t, x, gone(item(0, 1, 0, "a")), item(0, 1, 1, "b"), item(1, 1, 0, "x"), item(0, 1, 2, "cd"))
	deletes(t, x, cut(0, 1, 1, 2), 1)
	is(t, x, gone(item(0, 1, 0, "ab")), item(1, 1, 0, "x"), item(0, 1, 2, "cd"))
}

// P11.2: Text leaves out marks and what is gone alone: letters may be bytes of any kind, nought too.
func TestText(t *testing.T) {
	x := of(t, in(0, 1, none, none, "a\x00\xff"), split(0, 2, char(0, 1, 0), char(0, 1, 1)))
	reads(t, x, "a\x00\xff")
	deletes(t, x, cut(0, 1, 0, 1), 1)
	reads(t, x, "\x00\xff")
	if x.Len() != 4 {
		t.Errorf("Len %d, not 4", x.Len())
	}
}

// ---- P11.3 ----

// P11.3: a long chain of inserts, each at the one before: to the right, to the left in two ways, and in the middle.
func TestLongChains(t *testing.T) {
	const count = 5000
	behind, ahead, between, middle := New(), New(), of(t, in(15, 1, none, none, "()")), New()
	last, first, next, left, right := none, none, char(15, 1, 1), none, none
	for i := range count {
		n, text := i+1, letters(64)[i%64:i%64+1]
		inserts(t, behind, in(0, n, last, none, text))
		inserts(t, ahead, in(0, n, none, first, text))
		inserts(t, between, in(0, n, char(15, 1, 0), next, text))
		inserts(t, middle, in(0, n, left, right, text))
		c := char(0, n, 0)
		last, first, next = c, c, c
		if i%2 == 0 {
			left = c
		} else {
			right = c
		}
	}
	for i := range count {
		c, half := char(0, i+1, 0), i/2
		if i%2 == 1 {
			half = count - 1 - half
		}
		for _, z := range []struct {
			x     *Text
			place int
		}{{behind, i}, {ahead, count - 1 - i}, {between, count - i}, {middle, half}} {
			if got, ok := z.x.Find(c); got != z.place || !ok {
				t.Fatalf("the %d-th of a chain: at %d, %v, not %d", i, got, ok, z.place)
			}
		}
	}
	above(t, behind, char(0, 1, 0), last, true)
	above(t, ahead, char(0, 1, 0), first, true)
	above(t, behind, last, char(0, 1, 0), false)
}

// P11.3: behind each insert all stands as it stood, and what was inserted at neighbours stands between them, at every place of a text whose parents lie at both sides.
func TestBetweenNeighbours(t *testing.T) {
	ops := []api.Op{
		in(1, 1, none, none, "bc"), in(2, 1, none, char(1, 1, 0), "a"), in(0, 1, none, none, "de"), in(0, 2, char(1, 1, 0), char(1, 1, 1), "f"),
		split(2, 2, char(1, 1, 0), char(0, 2, 0)), in(2, 3, char(1, 1, 1), none, "gh"), in(1, 2, char(2, 3, 0), char(0, 1, 0), "i"),
	}
	all := of(t, ops...).Len()
	for k := 0; k <= all; k++ {
		for _, r := range []int{0, 1, 9} {
			x := of(t, ops...)
			before := x.Runs()
			left, _ := x.At(k - 1)
			right, _ := x.At(k)
			o := in(r, 7, api.Char{Op: left.Op, I: left.From}, api.Char{Op: right.Op, I: right.From}, "xy")
			inserts(t, x, o)
			for i := range 2 {
				if got, ok := x.Find(char(r, 7, i)); got != k+i || !ok {
					t.Errorf("between the neighbours %d and %d: at %d, %v (%s, behind %s)", k-1, k, got, ok, shown(x.Runs()), shown(before))
				}
			}
		}
	}
}

// ---- P11.4 ----

// spoiled: a text whose bytes are another's too, who may change them.
func spoiled(text string) (string, []byte) {
	b := []byte(text)
	return unsafe.String(&b[0], len(b)), b
}

// P11.4: the text of an op isn't kept, nor changed.
func TestTextIsNotKept(t *testing.T) {
	text, bytes := spoiled("abc")
	x := of(t, in(0, 1, none, none, text))
	inserts(t, x, in(1, 1, char(0, 1, 0), char(0, 1, 1), "x"))
	deletes(t, x, cut(0, 1, 1, 2), 1)
	if string(bytes) != "abc" {
		t.Errorf("the text handed in is %q", bytes)
	}
	copy(bytes, "???")
	is(t, x, item(0, 1, 0, "a"), item(1, 1, 0, "x"), gone(item(0, 1, 1, "b")), item(0, 1, 2, "c"))
}

// P11.4: what Runs answered changes nothing when it is changed, nor what lies behind its length, and is changed by nothing.
func TestRunsAreNew(t *testing.T) {
	x := parts(t)
	first, second := x.Runs(), x.Runs()
	want := slices.Clone(first)
	for i := range first {
		first[i] = item(9, 9, 9, "?")
	}
	spare := first[:cap(first)]
	for i := range spare {
		spare[i] = item(9, 9, 9, "?")
	}
	is(t, x, want...)
	if !slices.Equal(second, want) {
		t.Errorf("the other answer is %s", shown(second))
	}
	deletes(t, x, cut(0, 1, 0, 64), 6)
	inserts(t, x, in(5, 1, none, char(0, 1, 0), "new"))
	if !slices.Equal(second, want) {
		t.Errorf("the other answer is %s", shown(second))
	}
}

// P11.4: the texts that Runs, At and Text answer are memory of their own.
func TestTextsAreNew(t *testing.T) {
	x := of(t, in(0, 1, none, none, "abc"), split(0, 2, char(0, 1, 2), none))
	spoil := func(text string) {
		for i := range len(text) {
			*(*byte)(unsafe.Add(unsafe.Pointer(unsafe.StringData(text)), i)) = '?'
		}
	}
	one, _ := x.At(0)
	dot, _ := x.At(3)
	spoil(one.Text)
	spoil(dot.Text)
	spoil(x.Text())
	for _, r := range x.Runs() {
		spoil(r.Text)
	}
	is(t, x, item(0, 1, 0, "abc"), mark(0, 2))
	is(t, of(t, split(0, 1, none, none)), mark(0, 1))
}

// ---- P1 ----

// P1: every call ends and none panics, at all arguments, of any text.
func TestAnyArguments(t *testing.T) {
	numbers := []int{math.MinInt, -1, 0, 1, 2, 15, 16, 63, 64, 65, topOp, topOp + 1, topTime, topTime + 1, math.MaxInt}
	pick := source(1)
	any := func() int { return numbers[pick(len(numbers))] }
	some := func() api.Char {
		if pick(2) == 0 {
			return char(0, 1, pick(3))
		}
		return char(any(), any(), any())
	}
	for range 200 {
		x := of(t, in(0, 1, none, none, "abc"))
		if pick(3) == 0 {
			x = New()
		}
		for range 50 {
			o := api.Op{
				Kind: any(), Id: id(any(), any()), T: any(), Block: id(any(), any()), Parent: id(any(), any()), Key: letters(pick(3)),
				Seg: id(any(), any()), Left: some(), Right: some(), Text: letters(pick(70)), Cuts: []api.Cut{cut(any(), any(), any(), any())}, Flag: pick(2) == 0,
			}
			if pick(2) == 0 {
				o = in(any(), any(), some(), some(), letters(pick(70)))
			}
			if pick(4) == 0 {
				o = split(any(), any(), some(), some())
			}
			x.Insert(o)
			x.Delete(cut(any(), any(), any(), any()))
			x.Above(some(), some())
			x.Find(some())
			x.At(any())
		}
		is(t, x, x.Runs()...)
	}
}
