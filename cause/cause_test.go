package cause

import (
	"math"
	"slices"
	"strings"
	"testing"
	"unsafe"

	"offshoot/api"
	"offshoot/op"
	"offshoot/vec"
)

// The chapters' numbers, written out.
const (
	replicas = 16
	topOp    = 1048576
	topTime  = 1099511627776
	topCuts  = 16
	room     = 64
)

// ---- helpers ----

func id(r, n int) api.Id { return api.Id{R: r, N: n} }

func char(name api.Id) api.Char { return api.Char{Op: name, I: 5} }

func cut(name api.Id) api.Cut { return api.Cut{Op: name, From: 1, To: 4} }

// block: an op that names none.
func block(r, n int) api.Op { return api.Op{Kind: api.KNew, Id: id(r, n), T: 1, Key: "k"} }

// fold: an op that names one.
func fold(r, n int, named api.Id) api.Op {
	return api.Op{Kind: api.KFold, Id: id(r, n), T: 9, Block: named, Flag: true}
}

// cuts: an op that names those of its cuts.
func cuts(r, n int, named ...api.Id) api.Op {
	o := api.Op{Kind: api.KDelete, Id: id(r, n), T: 4}
	for _, name := range named {
		o.Cuts = append(o.Cuts, cut(name))
	}
	return o
}

// slot is a field by which an op of a kind names another one.
type slot struct {
	what string
	op   func(own, named, others api.Id) api.Op
}

// slots: each field of each kind. The op has the name that is its own, names one by that field, and the others by all else that names one.
func slots() []slot {
	list := []slot{
		{"Parent of KNew", func(own, x, y api.Id) api.Op {
			return api.Op{Kind: api.KNew, Id: own, T: 3, Parent: x, Key: "k"}
		}},
		{"Block of KMove", func(own, x, y api.Id) api.Op {
			return api.Op{Kind: api.KMove, Id: own, T: 3, Block: x, Parent: y, Key: "k"}
		}},
		{"Parent of KMove", func(own, x, y api.Id) api.Op {
			return api.Op{Kind: api.KMove, Id: own, T: 3, Block: y, Parent: x, Key: "k"}
		}},
		{"Seg of KInsert", func(own, x, y api.Id) api.Op {
			return api.Op{Kind: api.KInsert, Id: own, T: 3, Seg: x, Left: char(y), Right: char(y), Text: "text"}
		}},
		{"Left of KInsert", func(own, x, y api.Id) api.Op {
			return api.Op{Kind: api.KInsert, Id: own, T: 3, Seg: y, Left: char(x), Right: char(y), Text: "text"}
		}},
		{"Right of KInsert", func(own, x, y api.Id) api.Op {
			return api.Op{Kind: api.KInsert, Id: own, T: 3, Seg: y, Left: char(y), Right: char(x), Text: "text"}
		}},
		{"Seg of KSplit", func(own, x, y api.Id) api.Op {
			return api.Op{Kind: api.KSplit, Id: own, T: 3, Seg: x, Left: char(y), Right: char(y), Parent: y, Key: "k"}
		}},
		{"Left of KSplit", func(own, x, y api.Id) api.Op {
			return api.Op{Kind: api.KSplit, Id: own, T: 3, Seg: y, Left: char(x), Right: char(y), Parent: y, Key: "k"}
		}},
		{"Right of KSplit", func(own, x, y api.Id) api.Op {
			return api.Op{Kind: api.KSplit, Id: own, T: 3, Seg: y, Left: char(y), Right: char(x), Parent: y, Key: "k"}
		}},
		{"Parent of KSplit", func(own, x, y api.Id) api.Op {
			return api.Op{Kind: api.KSplit, Id: own, T: 3, Seg: y, Left: char(y), Right: char(y), Parent: x, Key: "k"}
		}},
		{"Block of KFold", func(own, x, y api.Id) api.Op {
			return api.Op{Kind: api.KFold, Id: own, T: 3, Block: x}
		}},
	}
	for _, place := range []int{0, 1, 7, topCuts - 1} {
		list = append(list, slot{"a cut of KDelete", func(own, x, y api.Id) api.Op {
			names := slices.Repeat([]api.Id{y}, topCuts)
			names[place] = x
			return cuts(own.R, own.N, names...)
		}})
	}
	return list
}

// wrongs: ops of a name that aren't right, though all else is as it should be.
func wrongs(name api.Id) []api.Op {
	there := id(0, 1)
	return []api.Op{
		{},
		{Id: name},
		{Id: name, T: 3},
		{Kind: 7, Id: name, T: 3},
		{Kind: -1, Id: name, T: 3, Key: "k"},
		{Kind: api.KNew, Id: name, T: 0, Key: "k"},
		{Kind: api.KNew, Id: name, T: -1, Key: "k"},
		{Kind: api.KNew, Id: name, T: topTime + 1, Key: "k"},
		{Kind: api.KNew, Id: name, T: 3},
		{Kind: api.KNew, Id: name, T: 3, Key: "k\x00"},
		{Kind: api.KNew, Id: name, T: 3, Key: strings.Repeat("k", 33)},
		{Kind: api.KNew, Id: name, T: 3, Key: "k", Parent: id(2, 0)},
		{Kind: api.KNew, Id: name, T: 3, Key: "k", Text: "t"},
		{Kind: api.KNew, Id: name, T: 3, Key: "k", Flag: true},
		{Kind: api.KMove, Id: name, T: 3, Block: api.Trash, Key: "k"},
		{Kind: api.KInsert, Id: name, T: 3, Text: "t"},
		{Kind: api.KInsert, Id: name, T: 3, Seg: there},
		{Kind: api.KInsert, Id: name, T: 3, Seg: there, Text: strings.Repeat("t", 65)},
		{Kind: api.KInsert, Id: name, T: 3, Seg: there, Text: "t", Left: api.Char{I: 1}},
		{Kind: api.KInsert, Id: name, T: 3, Seg: there, Text: "t", Right: api.Char{Op: there, I: 64}},
		{Kind: api.KDelete, Id: name, T: 3},
		{Kind: api.KDelete, Id: name, T: 3, Cuts: []api.Cut{{Op: there, From: 1, To: 1}}},
		{Kind: api.KDelete, Id: name, T: 3, Cuts: []api.Cut{{Op: there, From: 0, To: 65}}},
		{Kind: api.KDelete, Id: name, T: 3, Cuts: slices.Repeat([]api.Cut{cut(there)}, topCuts+1)},
		{Kind: api.KSplit, Id: name, T: 3, Seg: there},
		{Kind: api.KFold, Id: name, T: 3},
		{Kind: api.KFold, Id: name, T: 3, Block: api.Trash},
		{Kind: api.KFold, Id: name, T: 3, Block: there, Cuts: []api.Cut{cut(there)}},
	}
}

// wrongNames: names that are no op's.
func wrongNames() []api.Id {
	list := []api.Id{api.Root, api.Trash}
	for _, r := range []int{-1, 16, 1 << 32, math.MaxInt, math.MinInt} {
		list = append(list, id(r, 0), id(r, 1), id(r, topOp))
	}
	for _, n := range []int{0, -1, topOp + 1, 1 << 32, 1<<32 + 1, math.MaxInt, math.MinInt} {
		list = append(list, id(0, n), id(15, n))
	}
	return list
}

// of: a vector of right numbers.
func of(t *testing.T, numbers ...int) *vec.Vec {
	t.Helper()
	v, ok := vec.Of(numbers)
	if !ok {
		t.Fatalf("no vector of %v", numbers)
	}
	return v
}

// ready: does Ready answer as it should, and is what was handed in as it was?
func ready(t *testing.T, what string, v *vec.Vec, o api.Op, want bool) {
	t.Helper()
	have, as := v.Have(), op.Clone(o)
	if got := Ready(v, o); got != want {
		t.Errorf("Ready, %s: %v of %+v at %v", what, got, o, have)
	}
	if !op.Same(o, as) || !slices.Equal(v.Have(), have) {
		t.Errorf("Ready, %s: changed %+v at %v", what, as, have)
	}
}

// offers: does Offer answer as it should, and is all but the buffer as it was? One that is refused leaves that, too.
func offers(t *testing.T, b *Buffer, v *vec.Vec, o api.Op, want api.Errno) {
	t.Helper()
	have, as, names := v.Have(), op.Clone(o), b.Ids()
	if got := b.Offer(v, o); got != want {
		t.Fatalf("Offer of %+v at %v: %d, not %d", o, have, int(got), int(want))
	}
	if !op.Same(o, as) || !slices.Equal(v.Have(), have) {
		t.Errorf("Offer changed %+v at %v", as, have)
	}
	if want == api.OK {
		names = append(names, o.Id)
	}
	waits(t, b, names...)
}

// waits: do just these wait? They may be told in any order.
func waits(t *testing.T, b *Buffer, names ...api.Id) {
	t.Helper()
	want := slices.SortedFunc(slices.Values(names), func(x, y api.Id) int { return (x.R*2*topOp + x.N) - (y.R*2*topOp + y.N) })
	if got := b.Ids(); !slices.Equal(got, want) {
		t.Fatalf("Ids: %v, not %v", got, want)
	}
	if got := b.Count(); got != len(want) {
		t.Fatalf("Count: %d, not %d", got, len(want))
	}
}

// takes: is this the op that Take tells, does it wait no more, and is the vector as it was?
func takes(t *testing.T, b *Buffer, v *vec.Vec, want api.Op) {
	t.Helper()
	have, names := v.Have(), b.Ids()
	got, ok := b.Take(v)
	if !ok || !op.Same(got, want) {
		t.Fatalf("Take at %v: %+v, %v, not %+v", have, got, ok, want)
	}
	if !slices.Equal(v.Have(), have) {
		t.Errorf("Take changed the vector %v", have)
	}
	waits(t, b, slices.DeleteFunc(names, func(x api.Id) bool { return x == want.Id })...)
}

// takesNone: does Take tell nothing, and is all as it was?
func takesNone(t *testing.T, b *Buffer, v *vec.Vec) {
	t.Helper()
	have, names := v.Have(), b.Ids()
	if got, ok := b.Take(v); ok || !op.Same(got, api.Op{}) {
		t.Fatalf("Take at %v: %+v, %v", have, got, ok)
	}
	if !slices.Equal(v.Have(), have) {
		t.Errorf("Take changed the vector %v", have)
	}
	waits(t, b, names...)
}

// drops: does Drop tell so many, do just these wait then, and is the vector as it was?
func drops(t *testing.T, b *Buffer, v *vec.Vec, want int, names ...api.Id) {
	t.Helper()
	have := v.Have()
	if got := b.Drop(v); got != want {
		t.Fatalf("Drop at %v: %d, not %d", have, got, want)
	}
	if !slices.Equal(v.Have(), have) {
		t.Errorf("Drop changed the vector %v", have)
	}
	waits(t, b, names...)
}

// adds: adds an op to a vector, which takes it.
func adds(t *testing.T, v *vec.Vec, name api.Id) {
	t.Helper()
	if wrong := v.Add(name); wrong != api.OK {
		t.Fatalf("Add of %v: %d", name, int(wrong))
	}
}

// drain: takes, and adds to the vector, till nothing is ready: the names in the order in which they were told.
func drain(t *testing.T, b *Buffer, v *vec.Vec) []api.Id {
	t.Helper()
	var told []api.Id
	for {
		o, ok := b.Take(v)
		if !ok {
			return told
		}
		adds(t, v, o.Id)
		told = append(told, o.Id)
	}
}

// holding: a buffer in which so many wait, of which none is ready at noughts: 0.2 and those behind it.
func holding(t *testing.T, count int) *Buffer {
	t.Helper()
	b := New()
	for n := range count {
		offers(t, b, vec.New(), block(0, n+2), api.OK)
	}
	return b
}

// ---- P9.1 ----

// P9.1: of what names none, the next op of each replica is ready, and no other one: none that the vector has, none whose predecessor is missing.
func TestReadyNext(t *testing.T) {
	for r := range replicas {
		for _, there := range []int{0, 1, 2, 9, topOp - 2, topOp - 1, topOp} {
			for _, others := range []int{0, 3, topOp} {
				numbers := slices.Repeat([]int{others}, replicas)
				numbers[r] = there
				v := of(t, numbers...)
				for _, n := range []int{1, 2, there - 2, there - 1, there, there + 1, there + 2, there + 3, topOp - 1, topOp} {
					if n >= 1 && n <= topOp {
						ready(t, "of one that names none", v, block(r, n), n == there+1)
					}
				}
			}
		}
	}
}

// P9.1: the first op of a replica has none ahead of it.
func TestReadyFirst(t *testing.T) {
	for r := range replicas {
		ready(t, "the first one", vec.New(), block(r, 1), true)
		ready(t, "the second one", vec.New(), block(r, 2), false)
	}
}

// P9.1: an op that isn't right isn't ready, though nothing is missing.
func TestReadyOfWrong(t *testing.T) {
	for _, numbers := range [][]int{nil, {5}, {5, 5, 5}, slices.Repeat([]int{5}, replicas), slices.Repeat([]int{topOp}, replicas)} {
		v := of(t, numbers...)
		for _, name := range []api.Id{id(0, 1), id(0, 6), id(1, 1), id(1, 6), id(15, 1), id(15, 6)} {
			for _, o := range wrongs(name) {
				ready(t, "of a wrong one", v, o, false)
			}
		}
		for _, name := range wrongNames() {
			ready(t, "of a wrong name", v, block(name.R, name.N), false)
			ready(t, "of one that names a wrong one", v, fold(2, v.Next(2), name), false)
		}
	}
}

// P9.1: an op isn't ready while one is missing that it names, by whichever field; it is when that is there.
func TestReadyNames(t *testing.T) {
	v := of(t, 3, 2, 0, 7, 0, 0, 0, 0, 0, 0, 0, 0, 0, 0, 0, 1)
	own, there := id(1, 3), id(0, 3)
	for _, s := range slots() {
		for _, name := range []api.Id{id(0, 1), id(0, 2), id(0, 3), id(1, 1), id(1, 2), id(3, 1), id(3, 7), id(15, 1)} {
			ready(t, s.what, v, s.op(own, name, there), true)
			ready(t, s.what+", the first one of a replica", v, s.op(id(2, 1), name, there), true)
			ready(t, s.what+", of one that is there", v, s.op(id(1, 2), name, there), false)
			ready(t, s.what+", of one further on", v, s.op(id(1, 4), name, there), false)
		}
		for _, name := range []api.Id{id(0, 4), id(0, 5), id(0, topOp), id(2, 1), id(3, 8), id(14, 1), id(15, 2), id(15, topOp)} {
			ready(t, s.what, v, s.op(own, name, there), false)
			ready(t, s.what+", the first one of a replica", v, s.op(id(4, 1), name, there), false)
		}
		w := v.Clone()
		for n := 4; n < 9; n++ {
			ready(t, s.what, w, s.op(own, id(0, 8), there), false)
			adds(t, w, id(0, n))
		}
		ready(t, s.what, w, s.op(own, id(0, 8), there), true)
	}
}

// P9.1: an op that names itself, or a later one of its own replica, is never ready.
func TestReadyNamesItself(t *testing.T) {
	for _, s := range slots() {
		for n := range 4 {
			v := of(t, 5, n)
			for named := n + 1; named < n+4; named++ {
				ready(t, s.what, v, s.op(id(1, n+1), id(1, named), id(0, 1)), false)
				ready(t, s.what, v, s.op(id(1, named), id(1, named), id(0, 1)), false)
			}
		}
	}
}

// P9.1: nobody waits for the root, the trash, the beginning and the end.
func TestReadyNamesNone(t *testing.T) {
	v := of(t, 1)
	seg := id(0, 1)
	for _, parent := range []api.Id{api.Root, api.Trash} {
		for _, o := range []api.Op{
			{Kind: api.KNew, Id: id(2, 1), T: 3, Parent: parent, Key: "k"},
			{Kind: api.KMove, Id: id(2, 1), T: 3, Block: seg, Parent: parent, Key: "k"},
			{Kind: api.KSplit, Id: id(2, 1), T: 3, Seg: seg, Parent: parent, Key: "k"},
			{Kind: api.KInsert, Id: id(2, 1), T: 3, Seg: seg, Text: "t"},
		} {
			ready(t, "of one that names the root, or the trash", v, o, true)
		}
	}
	ready(t, "of one that names the trash alone", vec.New(), api.Op{Kind: api.KNew, Id: id(2, 1), T: 3, Parent: api.Trash, Key: "k"}, true)
}

// P9.1: where several are missing an op is ready when the last one is there, whichever that is.
func TestReadyNamesSeveral(t *testing.T) {
	names := []api.Id{id(3, 1), id(4, 1), id(5, 1), id(6, 1)}
	ops := []api.Op{
		cuts(7, 1, names...),
		{Kind: api.KSplit, Id: id(7, 1), T: 3, Seg: names[0], Left: char(names[1]), Right: char(names[2]), Parent: names[3], Key: "k"},
		{Kind: api.KInsert, Id: id(7, 1), T: 3, Seg: names[0], Left: char(names[1]), Right: char(names[2]), Text: "t"},
		{Kind: api.KMove, Id: id(7, 1), T: 3, Block: names[0], Parent: names[1], Key: "k"},
	}
	counts := []int{4, 4, 3, 2}
	for some := range 16 {
		v := vec.New()
		for i, name := range names {
			if some>>i&1 == 1 {
				adds(t, v, name)
			}
		}
		for i, o := range ops {
			all := 1<<counts[i] - 1
			ready(t, "of one that names several", v, o, some&all == all)
		}
	}
}

// ---- P9.2: Offer ----

// P9.2: the chapter's example.
func TestExample(t *testing.T) {
	b, v := New(), vec.New()
	offers(t, b, v, block(0, 2), api.OK)
	takesNone(t, b, v)
	offers(t, b, v, block(0, 1), api.OK)
	takes(t, b, v, block(0, 1))
	adds(t, v, id(0, 1))
	takes(t, b, v, block(0, 2))
	adds(t, v, id(0, 2))
	takesNone(t, b, v)
	waits(t, b)
}

// P9.2: an op that isn't right doesn't wait.
func TestOfferWrong(t *testing.T) {
	b, v := New(), of(t, 5)
	for _, name := range []api.Id{id(0, 1), id(0, 6), id(0, 9), id(1, 1), id(1, 2), id(15, topOp)} {
		for _, o := range wrongs(name) {
			offers(t, b, v, o, api.ErrForm)
		}
	}
	for _, name := range wrongNames() {
		offers(t, b, v, block(name.R, name.N), api.ErrForm)
		offers(t, b, v, fold(1, 1, name), api.ErrForm)
	}
	waits(t, b)
}

// P9.2: an op that the vector has doesn't wait, whatever it names.
func TestOfferHad(t *testing.T) {
	b, v := New(), of(t, 3, 0, topOp)
	for _, name := range []api.Id{id(0, 1), id(0, 2), id(0, 3), id(2, 1), id(2, topOp)} {
		offers(t, b, v, block(name.R, name.N), api.ErrThere)
		for _, s := range slots() {
			offers(t, b, v, s.op(name, id(0, 1), id(0, 1)), api.ErrThere)
			offers(t, b, v, s.op(name, id(9, 9), id(0, 1)), api.ErrThere)
		}
	}
	waits(t, b)
	offers(t, b, v, block(0, 4), api.OK)
}

// P9.2: of one name just the first one waits, whatever another one says besides.
func TestOfferTwice(t *testing.T) {
	for _, first := range slots() {
		b, v := New(), of(t, 3)
		o := first.op(id(1, 2), id(4, 4), id(0, 1))
		offers(t, b, v, o, api.OK)
		offers(t, b, v, o, api.ErrThere)
		for _, s := range slots() {
			offers(t, b, v, s.op(id(1, 2), id(0, 1), id(0, 1)), api.ErrThere)
			offers(t, b, v, s.op(id(1, 2), id(4, 5), id(0, 1)), api.ErrThere)
		}
		offers(t, b, v, block(1, 2), api.ErrThere)
		offers(t, b, v, block(1, 1), api.OK)
		takes(t, b, v, block(1, 1))
		takes(t, b, of(t, 3, 1, 0, 0, 4), o)
	}
}

// P9.2: a name that waits is that of its replica and number: other ones wait beside it.
func TestOfferNames(t *testing.T) {
	b, v := New(), vec.New()
	for r := range replicas {
		for _, n := range []int{1, 2, topOp} {
			offers(t, b, v, block(r, n), api.OK)
			offers(t, b, v, block(r, n), api.ErrThere)
		}
	}
}

// P9.2: 64 wait; one more waits only if it is ready.
func TestOfferFull(t *testing.T) {
	v := vec.New()
	b := holding(t, room-1)
	offers(t, b, v, block(1, 2), api.OK)
	offers(t, b, v, block(2, 2), api.ErrFull)
	offers(t, b, v, fold(2, 1, id(0, 1)), api.ErrFull)
	offers(t, b, v, fold(2, 1, id(0, 2)), api.ErrFull)
	offers(t, b, v, block(0, topOp), api.ErrFull)
	offers(t, b, v, block(0, 1), api.OK)
	offers(t, b, v, block(2, 2), api.ErrFull)
	offers(t, b, v, block(2, 1), api.OK)
	offers(t, b, v, block(2, 2), api.ErrFull)
	if got := b.Count(); got != room+2 {
		t.Errorf("Count: %d", got)
	}
}

// P9.2: with less than 64 there is room for what is ready and for what isn't.
func TestOfferUpToFull(t *testing.T) {
	for count := range room {
		offers(t, holding(t, count), vec.New(), block(1, 2), api.OK)
		offers(t, holding(t, count), vec.New(), block(1, 1), api.OK)
	}
	offers(t, holding(t, room), vec.New(), block(1, 2), api.ErrFull)
	offers(t, holding(t, room), vec.New(), block(1, 1), api.OK)
}

// P9.2: where 64 wait, one that is ready does so too by whatever kind it is, and one that lacks one by whatever field doesn't.
func TestOfferFullByKind(t *testing.T) {
	for _, s := range slots() {
		b, v := holding(t, room), of(t, 0, 1)
		offers(t, b, v, s.op(id(2, 1), id(0, 2), id(1, 1)), api.ErrFull)
		offers(t, b, v, s.op(id(2, 1), id(5, 1), id(1, 1)), api.ErrFull)
		offers(t, b, v, s.op(id(2, 2), id(1, 1), id(1, 1)), api.ErrFull)
		offers(t, b, v, s.op(id(2, 1), id(1, 1), id(1, 1)), api.OK)
		takes(t, b, v, s.op(id(2, 1), id(1, 1), id(1, 1)))
	}
}

// P9.2: there is room again behind a Take, and behind a Drop.
func TestOfferFullNoMore(t *testing.T) {
	b, v := holding(t, room), vec.New()
	offers(t, b, v, block(3, 2), api.ErrFull)
	offers(t, b, v, block(0, 1), api.OK)
	takes(t, b, v, block(0, 1))
	offers(t, b, v, block(3, 2), api.ErrFull)
	adds(t, v, id(0, 1))
	takes(t, b, v, block(0, 2))
	offers(t, b, v, block(3, 2), api.OK)
	offers(t, b, v, block(3, 3), api.ErrFull)
	if got := b.Drop(of(t, 5)); got != 3 {
		t.Errorf("Drop: %d", got)
	}
	for n := 3; n < 6; n++ {
		offers(t, b, v, block(3, n), api.OK)
	}
	offers(t, b, v, block(3, 6), api.ErrFull)
}

// P9.2: those that the vector has take up room, while they wait.
func TestOfferFullOfHad(t *testing.T) {
	b, v := holding(t, room), of(t, topOp)
	takesNone(t, b, v)
	offers(t, b, v, block(1, 2), api.ErrFull)
	offers(t, b, v, block(1, 1), api.OK)
	drops(t, b, v, room, id(1, 1))
	offers(t, b, v, block(1, 2), api.OK)
}

// P9.2: where several errors apply, ErrForm comes first, then ErrThere, then ErrFull.
func TestOfferSeveral(t *testing.T) {
	b, v := holding(t, room), of(t, 0, 1)
	for _, name := range []api.Id{id(0, 2), id(1, 1), id(1, 2), id(1, 3), id(0, 9)} {
		for _, o := range wrongs(name) {
			offers(t, b, v, o, api.ErrForm)
		}
	}
	offers(t, b, v, block(0, 2), api.ErrThere)
	offers(t, b, v, fold(0, 2, id(9, 9)), api.ErrThere)
	offers(t, b, v, block(1, 1), api.ErrThere)
	offers(t, b, v, fold(1, 1, id(9, 9)), api.ErrThere)
	offers(t, b, v, block(0, 2+room), api.ErrFull)
	offers(t, b, of(t, 1, 1), block(0, 2), api.ErrThere)
	offers(t, b, of(t, 2, 1), block(0, 2), api.ErrThere)
}

// ---- P9.2: Take ----

// P9.2: an empty buffer tells nothing.
func TestTakeOfNone(t *testing.T) {
	b := New()
	takesNone(t, b, vec.New())
	takesNone(t, b, of(t, 1, 2, 3))
	takesNone(t, b, of(t, slices.Repeat([]int{topOp}, replicas)...))
}

// P9.2: while none is ready nothing is told, whatever makes it so.
func TestTakeNoneReady(t *testing.T) {
	b, v := New(), of(t, 2, 1)
	for _, o := range []api.Op{block(0, 4), block(1, 3), fold(0, 3, id(2, 1)), fold(1, 2, id(0, 3)), fold(3, 1, id(3, 1)), cuts(4, 1, id(0, 1), id(1, 2)), block(2, 2)} {
		offers(t, b, v, o, api.OK)
		takesNone(t, b, v)
	}
	takesNone(t, b, vec.New())
}

// P9.2: what waits and is there by now isn't told.
func TestTakeHad(t *testing.T) {
	b, v := New(), vec.New()
	offers(t, b, v, block(0, 1), api.OK)
	offers(t, b, v, block(0, 2), api.OK)
	offers(t, b, v, block(3, 1), api.OK)
	takesNone(t, b, of(t, 2, 0, 0, 1))
	takes(t, b, of(t, 1), block(0, 2))
	takesNone(t, b, of(t, 1, 0, 0, 1))
	takes(t, b, of(t, 1), block(3, 1))
	takes(t, b, v, block(0, 1))
}

// P9.2: of several the one is told whose name comes first, by its replica, whatever its time, its kind and its turn.
func TestTakeFirst(t *testing.T) {
	v := of(t, 1, 4, 9)
	ops := []api.Op{
		fold(0, 2, id(1, 4)),
		{Kind: api.KNew, Id: id(1, 5), T: topTime, Key: "k"},
		cuts(2, 10, id(0, 1), id(2, 9)),
		{Kind: api.KInsert, Id: id(3, 1), T: 1, Seg: id(0, 1), Text: "t"},
		{Kind: api.KMove, Id: id(9, 1), T: 5, Block: id(0, 1), Key: "k"},
		block(10, 1),
		{Kind: api.KSplit, Id: id(15, 1), T: 2, Seg: id(0, 1), Parent: api.Trash, Key: "k"},
	}
	for turn := range ops {
		for _, backwards := range []bool{false, true} {
			order := slices.Concat(ops[turn:], ops[:turn])
			if backwards {
				slices.Reverse(order)
			}
			b := New()
			offers(t, b, v, fold(0, 3, id(0, 1)), api.OK)
			offers(t, b, v, block(7, 2), api.OK)
			for _, o := range order {
				offers(t, b, v, o, api.OK)
			}
			for _, o := range ops {
				takes(t, b, v, o)
			}
			takesNone(t, b, v)
			waits(t, b, id(0, 3), id(7, 2))
		}
	}
}

// P9.2: at each Take the first one of those is told that are ready then: one that was not may come ahead.
func TestTakeFirstOfThen(t *testing.T) {
	b, v := New(), vec.New()
	for _, o := range []api.Op{block(5, 1), fold(2, 1, id(5, 1)), fold(0, 1, id(2, 1)), block(0, 2), block(9, 1)} {
		offers(t, b, v, o, api.OK)
	}
	if told := drain(t, b, v); !slices.Equal(told, []api.Id{id(5, 1), id(2, 1), id(0, 1), id(0, 2), id(9, 1)}) {
		t.Errorf("told: %v", told)
	}
	waits(t, b)
}

// P9.2: what was told waits no more, though the vector is as it was; offered again it waits again.
func TestTakeNoMore(t *testing.T) {
	b, v := New(), vec.New()
	for _, o := range []api.Op{block(0, 1), block(0, 2), block(1, 1)} {
		offers(t, b, v, o, api.OK)
	}
	takes(t, b, v, block(0, 1))
	takes(t, b, v, block(1, 1))
	takesNone(t, b, v)
	again := api.Op{Kind: api.KNew, Id: id(0, 1), T: 8, Key: "other"}
	offers(t, b, v, again, api.OK)
	takes(t, b, v, again)
	takesNone(t, b, v)
	waits(t, b, id(0, 2))
}

// P9.2: what is told is the op that was offered, all of it, of each kind, at each bound.
func TestTakeWhole(t *testing.T) {
	v := of(t, 3, topOp-1)
	for _, s := range slots() {
		for _, o := range []api.Op{s.op(id(2, 1), id(0, 2), id(0, 3)), s.op(id(0, 4), id(0, 1), id(0, 2)), s.op(id(1, topOp), id(1, topOp-1), id(1, 1))} {
			for _, time := range []int{1, topTime} {
				o.T = time
				b := New()
				offers(t, b, v, o, api.OK)
				takes(t, b, v, o)
			}
		}
	}
	flat, long := fold(2, 1, id(0, 1)), block(2, 1)
	flat.Flag = false
	long.Key = strings.Repeat("\x00k", 16)
	text := api.Op{Kind: api.KInsert, Id: id(2, 1), T: 3, Seg: id(0, 1), Text: strings.Repeat("\xff\x00", 32)}
	for _, o := range []api.Op{flat, long, text} {
		b := New()
		offers(t, b, v, o, api.OK)
		takes(t, b, v, o)
	}
}

// ---- P9.2: Drop ----

// P9.2: nothing is dropped where the vector has none of what waits.
func TestDropNone(t *testing.T) {
	b, v := New(), vec.New()
	drops(t, b, v, 0)
	drops(t, b, of(t, topOp, topOp), 0)
	names := []api.Id{id(0, 2), id(1, 1), id(1, 3), id(15, topOp)}
	for _, name := range names {
		offers(t, b, v, block(name.R, name.N), api.OK)
	}
	drops(t, b, v, 0, names...)
	drops(t, b, of(t, 1, 0, topOp, topOp), 0, names...)
	drops(t, b, of(t, 1, 0, 0, 0, 0, 0, 0, 0, 0, 0, 0, 0, 0, 0, 0, topOp-1), 0, names...)
}

// P9.2: just those wait no more that the vector has, whether or not they are ready, and whatever they name.
func TestDropSome(t *testing.T) {
	b, v := New(), vec.New()
	for _, o := range []api.Op{fold(0, 1, id(9, 9)), block(0, 2), block(0, 3), cuts(0, 5, id(0, 1)), block(1, 1), block(1, 2), block(15, 1)} {
		offers(t, b, v, o, api.OK)
	}
	drops(t, b, of(t, 2), 2, id(0, 3), id(0, 5), id(1, 1), id(1, 2), id(15, 1))
	drops(t, b, of(t, 2), 0, id(0, 3), id(0, 5), id(1, 1), id(1, 2), id(15, 1))
	drops(t, b, of(t, 4, 1), 2, id(0, 5), id(1, 2), id(15, 1))
	offers(t, b, of(t, 4, 1), block(0, 4), api.ErrThere)
	takes(t, b, of(t, 4, 1), cuts(0, 5, id(0, 1)))
	drops(t, b, of(t, 0, 0, 0, 0, 0, 0, 0, 0, 0, 0, 0, 0, 0, 0, 0, 1), 1, id(1, 2))
	offers(t, b, v, block(15, 1), api.OK)
	waits(t, b, id(1, 2), id(15, 1))
}

// P9.2: a vector that has all leaves none.
func TestDropAll(t *testing.T) {
	b := holding(t, room)
	drops(t, b, of(t, room+1), room)
	drops(t, b, of(t, room+1), 0)
	takesNone(t, b, vec.New())
	b = New()
	for r := range replicas {
		for n := range 3 {
			offers(t, b, vec.New(), block(r, n+1), api.OK)
		}
	}
	drops(t, b, of(t, slices.Repeat([]int{topOp}, replicas)...), 3*replicas)
	offers(t, b, vec.New(), block(0, 1), api.OK)
}

// P9.2: Drop of each number of those that wait.
func TestDropUpTo(t *testing.T) {
	for number := range room + 3 {
		b := holding(t, room)
		dropped := min(max(0, number-1), room)
		drops(t, b, of(t, number), dropped, b.Ids()[dropped:]...)
	}
}

// ---- P9.3 ----

// P9.3: New answers a buffer in which none wait, each time another one.
func TestNew(t *testing.T) {
	a, b := New(), New()
	waits(t, a)
	offers(t, a, vec.New(), block(0, 1), api.OK)
	waits(t, b)
	waits(t, New())
	offers(t, b, vec.New(), block(0, 1), api.OK)
	takes(t, a, vec.New(), block(0, 1))
	waits(t, b, id(0, 1))
	drops(t, b, of(t, 1), 1)
}

// P9.3: Ids are in order, by the replica, then by the number, in whatever order they were offered; Count is how many.
func TestIds(t *testing.T) {
	names := []api.Id{id(0, 2), id(0, 3), id(0, 10), id(0, topOp), id(1, 1), id(1, 2), id(2, 1), id(2, topOp-1), id(10, 1), id(10, 9), id(15, 2), id(15, 10), id(15, topOp)}
	for turn := range names {
		for _, backwards := range []bool{false, true} {
			order := slices.Concat(names[turn:], names[:turn])
			if backwards {
				slices.Reverse(order)
			}
			b := New()
			for i, name := range order {
				offers(t, b, vec.New(), block(name.R, name.N), api.OK)
				if got := b.Count(); got != i+1 {
					t.Errorf("Count: %d, not %d", got, i+1)
				}
			}
			if got := b.Ids(); !slices.Equal(got, names) {
				t.Errorf("Ids: %v", got)
			}
		}
	}
	if got := New().Ids(); len(got) != 0 {
		t.Errorf("Ids of none: %v", got)
	}
	if got := holding(t, room).Ids(); len(got) != room || got[0] != id(0, 2) || got[room-1] != id(0, room+1) {
		t.Errorf("Ids of 64: %v", got)
	}
}

// P9.3: Ids that are changed, in their spare room too, change nothing.
func TestIdsApart(t *testing.T) {
	b := holding(t, 9)
	want := b.Ids()
	first, second := b.Ids(), b.Ids()
	for i := range first {
		first[i] = id(7, 7)
	}
	clear(first[:cap(first)])
	_ = append(first[:3], id(8, 8), id(8, 9))
	waits(t, b, want...)
	if !slices.Equal(second, want) {
		t.Errorf("other Ids are changed: %v", second)
	}
	takes(t, b, of(t, 1), block(0, 2))
	if !slices.Equal(second, want) {
		t.Errorf("Ids are changed by a Take: %v", second)
	}
}

// P9.3: an op's list, changed behind the Offer, changes nothing that waits; what lies behind its length is as it was.
func TestOfferKeepsNone(t *testing.T) {
	b, v := New(), of(t, 5)
	beyond := cut(id(9, 9))
	memory := []api.Cut{cut(id(0, 1)), cut(id(0, 2)), cut(id(0, 3)), beyond, beyond}
	o := api.Op{Kind: api.KDelete, Id: id(1, 1), T: 3, Cuts: memory[:3]}
	want := op.Clone(o)
	offers(t, b, v, o, api.OK)
	if memory[3] != beyond || memory[4] != beyond {
		t.Errorf("changed behind the list: %v", memory)
	}
	for i := range memory {
		memory[i] = cut(id(8, 8))
	}
	offers(t, b, v, o, api.ErrThere)
	takes(t, b, v, want)
	if !slices.Equal(memory, slices.Repeat([]api.Cut{cut(id(8, 8))}, 5)) {
		t.Errorf("changed by Take: %v", memory)
	}
}

// P9.3: an op that is refused isn't kept, nor changed behind its list.
func TestRefusedKeepsNone(t *testing.T) {
	b, v := New(), of(t, 5)
	waiting := cuts(1, 1, id(0, 1), id(0, 2))
	offers(t, b, v, waiting, api.OK)
	memory := slices.Repeat([]api.Cut{cut(id(0, 4))}, 9)
	offers(t, b, v, api.Op{Kind: api.KDelete, Id: id(1, 1), T: 5, Cuts: memory[:2]}, api.ErrThere)
	offers(t, b, v, api.Op{Kind: api.KDelete, Id: id(0, 3), T: 5, Cuts: memory[:1]}, api.ErrThere)
	offers(t, b, v, api.Op{Kind: api.KFold, Id: id(1, 2), T: 5, Cuts: memory[:4]}, api.ErrForm)
	if !slices.Equal(memory, slices.Repeat([]api.Cut{cut(id(0, 4))}, 9)) {
		t.Errorf("changed: %v", memory)
	}
	takes(t, b, v, waiting)
	takesNone(t, b, v)
}

// P9.3: what Take told, changed in its spare room too, changes nothing; nor do two ops of one list share it.
func TestTakeApart(t *testing.T) {
	b, v := New(), of(t, 5)
	shared := []api.Cut{cut(id(0, 1)), cut(id(0, 2)), cut(id(0, 3))}
	for r := 1; r < 4; r++ {
		offers(t, b, v, api.Op{Kind: api.KDelete, Id: id(r, 1), T: 3, Cuts: shared}, api.OK)
	}
	want := slices.Clone(shared)
	for r := 1; r < 4; r++ {
		o, ok := b.Take(v)
		if !ok || o.Id != id(r, 1) || !slices.Equal(o.Cuts, want) {
			t.Fatalf("Take: %+v, %v", o, ok)
		}
		spare := o.Cuts[:cap(o.Cuts)]
		for i := range spare {
			spare[i] = cut(id(9, 9))
		}
	}
	if !slices.Equal(shared, want) {
		t.Errorf("what was offered is changed: %v", shared)
	}
}

// P9.3: an op's texts are memory of the buffer's own: what was offered isn't held on to.
func TestTextsApart(t *testing.T) {
	b, v := New(), of(t, 5)
	long := strings.Repeat("text", 100)
	text := api.Op{Kind: api.KInsert, Id: id(1, 1), T: 3, Seg: id(0, 1), Text: long[3:20]}
	key := api.Op{Kind: api.KNew, Id: id(2, 1), T: 3, Key: long[3:20]}
	offers(t, b, v, text, api.OK)
	offers(t, b, v, key, api.OK)
	o, _ := b.Take(v)
	if o.Text != text.Text || unsafe.StringData(o.Text) == unsafe.StringData(text.Text) {
		t.Errorf("the text %q is what was handed in", o.Text)
	}
	o, _ = b.Take(v)
	if o.Key != key.Key || unsafe.StringData(o.Key) == unsafe.StringData(key.Key) {
		t.Errorf("the key %q is what was handed in", o.Key)
	}
}

// P9.3: a vector isn't kept: what it has later counts only where it is handed in.
func TestVectorApart(t *testing.T) {
	b, v := New(), vec.New()
	offers(t, b, v, block(0, 2), api.OK)
	adds(t, v, id(0, 1))
	takesNone(t, b, vec.New())
	takes(t, b, v, block(0, 2))
	offers(t, b, vec.New(), block(0, 1), api.OK)
	offers(t, b, v, block(1, 1), api.OK)
	takes(t, b, vec.New(), block(0, 1))
}

// ---- P9.4 ----

// closed: ops of which some hang on what is missing, and the names of those that come to wait for ever at a vector with 0.1 to 0.3.
func closed() (ops []api.Op, left []api.Id) {
	ops = []api.Op{
		block(0, 5), fold(0, 6, id(1, 2)), block(0, 4), // all there in the end
		fold(1, 1, id(0, 5)), cuts(1, 2, id(0, 1), id(0, 4), id(1, 1)),
		block(1, 4),                     // 1.3 is missing
		fold(2, 1, id(1, 4)),            // and what names it waits
		block(2, 2),                     // and what is behind that
		fold(3, 1, id(4, 1)),            // these two wait for one another
		fold(4, 1, id(3, 1)),            //
		fold(5, 1, id(5, 1)),            // this one for itself
		cuts(6, 1, id(0, 6), id(9, 9)),  // one of two is missing
		cuts(7, 1, id(0, 6), id(1, 2)),  // none of two
		fold(8, 2, id(0, 1)),            // the one ahead of it is missing
		cuts(15, 1, id(7, 1), id(0, 2)), //
	}
	return ops, []api.Id{id(1, 4), id(2, 1), id(2, 2), id(3, 1), id(4, 1), id(5, 1), id(6, 1), id(8, 2)}
}

// P9.4: in whatever order ops are offered, the same ones wait in the end: those of which something ahead is missing.
func TestInTheEnd(t *testing.T) {
	ops, left := closed()
	pick := source(9)
	for range 2000 {
		b, v := New(), of(t, 3)
		for _, i := range shuffled(pick, len(ops)) {
			if wrong := b.Offer(v, ops[i]); wrong != api.OK {
				t.Fatalf("Offer of %v: %d", ops[i].Id, int(wrong))
			}
			if pick(4) == 0 {
				drain(t, b, v)
			}
		}
		drain(t, b, v)
		waits(t, b, left...)
		if have := v.Have(); !slices.Equal(have, []int{6, 2, 0, 0, 0, 0, 0, 1, 0, 0, 0, 0, 0, 0, 0, 1}) {
			t.Fatalf("there in the end: %v", have)
		}
		takesNone(t, b, v)
	}
}

// P9.4: each order of five ops, offered all at once, is told in one order.
func TestEachOrder(t *testing.T) {
	ops := []api.Op{fold(0, 1, id(2, 1)), block(0, 2), block(1, 1), fold(2, 1, id(1, 1)), fold(3, 1, id(4, 1))}
	count := 0
	eachOrder(ops, func(order []api.Op) {
		count++
		b, v := New(), vec.New()
		for _, o := range order {
			offers(t, b, v, o, api.OK)
		}
		if told := drain(t, b, v); !slices.Equal(told, []api.Id{id(1, 1), id(2, 1), id(0, 1), id(0, 2)}) {
			t.Errorf("told: %v", told)
		}
		waits(t, b, id(3, 1))
	})
	if count != 120 {
		t.Errorf("%d orders", count)
	}
}

// eachOrder: calls with each order of ops.
func eachOrder(ops []api.Op, call func([]api.Op)) {
	var from func(k int)
	from = func(k int) {
		if k == len(ops) {
			call(ops)
			return
		}
		for i := k; i < len(ops); i++ {
			ops[k], ops[i] = ops[i], ops[k]
			from(k + 1)
			ops[k], ops[i] = ops[i], ops[k]
		}
	}
	from(0)
}

// P9.4: a whole buffer, each op of which hangs on the next one, comes free by the last one, and is told in turn.
func TestWholeRow(t *testing.T) {
	b, v := New(), vec.New()
	for n := room + 1; n > 1; n-- {
		offers(t, b, v, block(3, n), api.OK)
		takesNone(t, b, v)
	}
	offers(t, b, v, block(3, room+2), api.ErrFull)
	offers(t, b, v, block(3, 1), api.OK)
	for n := 1; n <= room+1; n++ {
		takes(t, b, v, block(3, n))
		adds(t, v, id(3, n))
	}
	takesNone(t, b, v)
	waits(t, b)
}

// ---- P1 ----

// P1: no call panics, whatever the op, and whatever is there.
func TestAnyArguments(t *testing.T) {
	pick := source(1)
	edges := []int{0, 1, 2, 15, 16, 63, 64, 65, -1, topOp - 1, topOp, topOp + 1, topTime, topTime + 1, 1 << 32, math.MaxInt, math.MinInt}
	edge := func() int { return edges[pick(len(edges))] }
	name := func() api.Id {
		if pick(3) == 0 {
			return id(edge(), edge())
		}
		return id(pick(replicas), pick(4))
	}
	texts := []string{"", "k", "text", "\x00", "k\x00", strings.Repeat("k", 32), strings.Repeat("k", 33), strings.Repeat("t", 65)}
	vectors := []*vec.Vec{vec.New(), of(t, 1, 2, 3, 4), of(t, topOp-1, topOp), of(t, slices.Repeat([]int{topOp}, replicas)...)}
	b := New()
	for range 200000 {
		v := vectors[pick(len(vectors))]
		o := slots()[pick(len(slots()))].op(name(), name(), name())
		switch pick(5) {
		case 0:
			o.Kind, o.T = edge(), edge()
		case 1:
			o.Key, o.Text = texts[pick(len(texts))], texts[pick(len(texts))]
		case 2:
			o.Cuts = slices.Repeat([]api.Cut{{Op: name(), From: edge(), To: edge()}}, pick(20))
		}
		isReady, before := Ready(v, o), b.Count()
		wrong := b.Offer(v, o)
		if !op.Right(o) && (isReady || wrong != api.ErrForm) || isReady && wrong != api.OK && wrong != api.ErrThere {
			t.Fatalf("%+v at %v: %v, %d", o, v.Have(), isReady, int(wrong))
		}
		if after := b.Count(); after-before != 1 && wrong == api.OK || after != before && wrong != api.OK {
			t.Fatalf("%d, then %d wait: %d", before, after, int(wrong))
		}
		if pick(9) == 0 {
			b.Take(v)
		}
		if pick(99) == 0 {
			b.Drop(v)
		}
	}
}
