package vec

import (
	"math"
	"slices"
	"testing"

	"offshoot/api"
)

// The chapter's numbers, written out.
const (
	replicas = 16
	topOp    = 1048576
)

// ---- helpers ----

func id(r, n int) api.Id { return api.Id{R: r, N: n} }

// cut: a replica's names from one number on, up to another one, without that.
func cut(r, from, to int) api.Cut { return api.Cut{Op: id(r, from), From: from, To: to} }

// full: the 16 numbers that begin with these; the others are 0.
func full(numbers ...int) []int {
	list := make([]int, replicas)
	copy(list, numbers)
	return list
}

// at: 16 numbers, of which just this one isn't 0.
func at(place, number int) []int {
	list := make([]int, replicas)
	list[place] = number
	return list
}

// of: a vector of right numbers.
func of(t *testing.T, numbers ...int) *Vec {
	t.Helper()
	v, ok := Of(numbers)
	if v == nil || !ok {
		t.Fatalf("Of(%v): %v", numbers, ok)
	}
	tells(t, v, numbers...)
	return v
}

// tells: does a vector tell these numbers, and noughts behind them?
func tells(t *testing.T, v *Vec, numbers ...int) {
	t.Helper()
	if v == nil {
		t.Fatal("no vector")
	}
	want := full(numbers...)
	if got := v.Have(); !slices.Equal(got, want) {
		t.Errorf("Have: %v, not %v", got, want)
	}
	count := 0
	for r, n := range want {
		count += n
		if v.Has(id(r, n)) != (n > 0) || v.Has(id(r, n+1)) {
			t.Errorf("Has around %d.%d of %v", r, n, want)
		}
	}
	if got := v.Count(); got != count {
		t.Errorf("Count: %d, not %d", got, count)
	}
}

// answers: is an error's number as it should be?
func answers(t *testing.T, what string, got, want api.Errno) {
	t.Helper()
	if got != want {
		t.Errorf("%s: %d, not %d", what, int(got), int(want))
	}
}

// misses: does a vector tell that these names of another one are missing, and are both as they were?
func misses(t *testing.T, v, w *Vec, want ...api.Cut) {
	t.Helper()
	ahead, there := v.Have(), w.Have()
	if got := v.Missing(w); !slices.Equal(got, want) {
		t.Errorf("Missing of %v and %v: %v, not %v", ahead, there, got, want)
	}
	if got := v.Covers(w); got != (len(want) == 0) {
		t.Errorf("Covers of %v and %v: %v", ahead, there, got)
	}
	tells(t, v, ahead...)
	tells(t, w, there...)
}

// addAll: adds the names that cuts tell, which are all taken.
func addAll(t *testing.T, v *Vec, cuts []api.Cut) {
	t.Helper()
	for _, c := range cuts {
		for n := c.From; n < c.To; n++ {
			if wrong := v.Add(id(c.Op.R, n)); wrong != api.OK {
				t.Fatalf("Add of %d.%d: %d", c.Op.R, n, int(wrong))
			}
		}
	}
}

// none: the lists without elements.
func none() [][]int { return [][]int{nil, {}, make([]int, 0, 9)} }

// wrongNumbers: numbers that no vector has.
func wrongNumbers() []int {
	return []int{-1, -2, -topOp, topOp + 1, topOp + 2, 2 * topOp, 1 << 31, 1 << 32, 1<<32 + 1, -1 << 32, math.MaxInt, math.MaxInt - 1, math.MinInt, math.MinInt + 1}
}

// wrongReplicas: numbers that no replica has.
func wrongReplicas() []int {
	return []int{-1, -2, -15, -16, 16, 17, 31, 32, 256, 1 << 32, 1<<32 + 1, -1 << 32, math.MaxInt, math.MinInt, math.MinInt + 1}
}

// wrongNames: names that are no op's, by their replica, by their number, by both.
func wrongNames() []api.Id {
	list := []api.Id{api.Root, api.Trash}
	for _, r := range wrongReplicas() {
		for _, n := range []int{0, 1, 2, 3, topOp, topOp + 1, r} {
			list = append(list, id(r, n))
		}
	}
	for r := range replicas {
		list = append(list, id(r, 0))
		for _, n := range wrongNumbers() {
			list = append(list, id(r, n))
		}
	}
	return list
}

// some: the numbers of vectors of many kinds.
func some() [][]int {
	rising := make([]int, replicas)
	whole := make([]int, replicas)
	for r := range replicas {
		rising[r], whole[r] = r, topOp
	}
	return [][]int{
		full(), full(1), at(15, 1), full(3, 0, 1, 7), full(0, 5, 1, 6, 2), full(topOp), at(15, topOp), at(7, topOp-1), rising, whole,
		{1, 2, 1, 2, 1, 2, 1, 2, 1, 2, 1, 2, 1, 2, 1, 2}, {2, 1, 2, 1, 2, 1, 2, 1, 2, 1, 2, 1, 2, 1, 2, 1},
	}
}

// ---- P8.1 ----

// P8.1: New answers a vector of noughts, each time another one.
func TestNew(t *testing.T) {
	v, w := New(), New()
	tells(t, v)
	for r := range replicas {
		if got := v.Next(r); got != 1 {
			t.Errorf("Next(%d): %d, not 1", r, got)
		}
	}
	answers(t, "Add", v.Add(id(3, 1)), api.OK)
	tells(t, v, at(3, 1)...)
	tells(t, w)
	tells(t, New())
}

// P8.1: Of answers the vector of up to 16 numbers; those that aren't told are 0.
func TestOf(t *testing.T) {
	for _, list := range none() {
		v, ok := Of(list)
		if !ok {
			t.Errorf("Of no numbers: %v", ok)
		}
		tells(t, v)
	}
	numbers := []int{16, 15, 14, 13, 12, 11, 10, 9, 8, 7, 6, 5, 4, 3, 2, 1}
	for n := range replicas + 1 {
		of(t, numbers[:n]...)
		of(t, make([]int, n)...)
	}
	of(t, 1, 0, 5, topOp)
	for _, list := range some() {
		of(t, list...)
	}
}

// P8.1: each number may be 0 to 2^20, at each place.
func TestOfEdges(t *testing.T) {
	for count := 1; count <= replicas; count++ {
		for place := range count {
			for _, n := range []int{0, 1, topOp - 1, topOp} {
				list := slices.Repeat([]int{9}, count)
				list[place] = n
				of(t, list...)
			}
		}
	}
}

// P8.1: Of answers nothing for more than 16 numbers, whatever they are.
func TestOfTooMany(t *testing.T) {
	for _, count := range []int{17, 18, 32, 33, 1000, topOp} {
		for _, n := range []int{0, 1, topOp, topOp + 1, -1} {
			if v, ok := Of(slices.Repeat([]int{n}, count)); v != nil || ok {
				t.Errorf("Of %d numbers %d: a vector: %v, %v", count, n, v != nil, ok)
			}
		}
	}
}

// P8.1: Of answers nothing where one of the numbers isn't 0 to 2^20, whichever it is.
func TestOfWrongNumber(t *testing.T) {
	for count := 1; count <= replicas; count++ {
		for place := range count {
			for _, n := range wrongNumbers() {
				list := make([]int, count)
				list[place] = n
				if v, ok := Of(list); v != nil || ok {
					t.Errorf("Of %v: a vector: %v, %v", list, v != nil, ok)
				}
			}
		}
	}
}

// P8.1: Have tells 16 numbers, and Of makes the same of them.
func TestHave(t *testing.T) {
	for _, list := range some() {
		have := of(t, list...).Have()
		if len(have) != replicas {
			t.Errorf("Have: %d numbers", len(have))
		}
		of(t, have...)
	}
	if have := New().Have(); len(have) != replicas {
		t.Errorf("Have of noughts: %d numbers", len(have))
	}
}

// P8.1: a Clone is the same; neither is changed when the other one is.
func TestClone(t *testing.T) {
	for _, list := range some() {
		v := of(t, list...)
		w := v.Clone()
		tells(t, w, list...)
		misses(t, v, w)
		misses(t, w, v)
	}
	v := of(t, 1, 2)
	w := v.Clone()
	answers(t, "Add", w.Add(id(0, 2)), api.OK)
	tells(t, v, 1, 2)
	answers(t, "Add", v.Add(id(1, 3)), api.OK)
	tells(t, w, 2, 2)
	x := w.Clone()
	x.Join(of(t, 9, 9, 9))
	tells(t, v, 1, 3)
	tells(t, w, 2, 2)
	tells(t, x, 9, 9, 9)
	w.Join(of(t, 0, 0, 4))
	tells(t, w, 2, 2, 4)
	tells(t, x, 9, 9, 9)
}

// ---- P8.2 ----

// P8.2: a vector has the names up to the number of their replica, and no others.
func TestHas(t *testing.T) {
	v := of(t, 3, 0, topOp, topOp-1, 1, 0, 0, 0, 0, 0, 0, 0, 0, 0, 7, 2)
	for _, c := range []struct {
		id   api.Id
		want bool
	}{
		{id(0, 1), true}, {id(0, 2), true}, {id(0, 3), true}, {id(0, 4), false}, {id(0, 5), false}, {id(0, topOp), false},
		{id(1, 1), false}, {id(1, 2), false}, {id(1, topOp), false},
		{id(2, 1), true}, {id(2, topOp-1), true}, {id(2, topOp), true},
		{id(3, 1), true}, {id(3, topOp-1), true}, {id(3, topOp), false},
		{id(4, 1), true}, {id(4, 2), false},
		{id(14, 7), true}, {id(14, 8), false},
		{id(15, 1), true}, {id(15, 2), true}, {id(15, 3), false}, {id(15, topOp), false},
	} {
		if got := v.Has(c.id); got != c.want {
			t.Errorf("Has(%v): %v", c.id, got)
		}
	}
}

// P8.2: no vector has a name that is no op's, and none takes it: ErrForm, though the number is one that is there, or further on than the next one.
func TestNoName(t *testing.T) {
	for _, list := range some() {
		v := of(t, list...)
		for _, name := range wrongNames() {
			if v.Has(name) {
				t.Errorf("Has(%v) of %v", name, list)
			}
			if wrong := v.Add(name); wrong != api.ErrForm {
				t.Errorf("Add(%v) to %v: %d", name, list, int(wrong))
			}
		}
		tells(t, v, list...)
	}
}

// P8.2: Add of each name around what there is: those that are there, the next one, and those further on.
func TestAdd(t *testing.T) {
	for _, c := range []struct {
		ahead, number int
		want          api.Errno
	}{
		{0, 1, api.OK}, {0, 2, api.ErrEarly}, {0, 3, api.ErrEarly}, {0, topOp - 1, api.ErrEarly}, {0, topOp, api.ErrEarly}, {0, 0, api.ErrForm},
		{1, 1, api.ErrThere}, {1, 2, api.OK}, {1, 3, api.ErrEarly}, {1, topOp, api.ErrEarly}, {1, 0, api.ErrForm}, {1, -1, api.ErrForm},
		{9, 1, api.ErrThere}, {9, 8, api.ErrThere}, {9, 9, api.ErrThere}, {9, 10, api.OK}, {9, 11, api.ErrEarly}, {9, topOp, api.ErrEarly},
		{topOp - 2, topOp - 2, api.ErrThere}, {topOp - 2, topOp - 1, api.OK}, {topOp - 2, topOp, api.ErrEarly}, {topOp - 2, topOp + 1, api.ErrForm},
		{topOp - 1, topOp - 1, api.ErrThere}, {topOp - 1, topOp, api.OK}, {topOp - 1, topOp + 1, api.ErrForm},
		{topOp, 1, api.ErrThere}, {topOp, topOp - 1, api.ErrThere}, {topOp, topOp, api.ErrThere}, {topOp, topOp + 1, api.ErrForm}, {topOp, topOp + 2, api.ErrForm},
	} {
		for r := range replicas {
			for _, others := range []int{0, 4, topOp} {
				list := slices.Repeat([]int{others}, replicas)
				list[r] = c.ahead
				v := of(t, list...)
				answers(t, "Add", v.Add(id(r, c.number)), c.want)
				if c.want == api.OK {
					list[r] = c.number
				}
				tells(t, v, list...)
			}
		}
	}
}

// P8.2: behind an Add that was refused the next name is what it was.
func TestAddBehindRefused(t *testing.T) {
	v := New()
	for n := 1; n < 50; n++ {
		answers(t, "Add of one further on", v.Add(id(5, n+1)), api.ErrEarly)
		answers(t, "Add of no name", v.Add(id(5, 0)), api.ErrForm)
		if got := v.Next(5); got != n {
			t.Errorf("Next: %d, not %d", got, n)
		}
		answers(t, "Add of the next one", v.Add(id(5, n)), api.OK)
		answers(t, "Add of the last one", v.Add(id(5, n)), api.ErrThere)
	}
	tells(t, v, at(5, 49)...)
}

// P8.2: all names of a replica, one behind the other, up to the last one; no other replica's number is touched.
func TestAddAll(t *testing.T) {
	v := of(t, 1, 2)
	for n := 3; n <= topOp; n++ {
		if got := v.Next(1); got != n {
			t.Fatalf("Next: %d, not %d", got, n)
		}
		if wrong := v.Add(id(1, n)); wrong != api.OK {
			t.Fatalf("Add of 1.%d: %d", n, int(wrong))
		}
	}
	tells(t, v, 1, topOp)
	if got := v.Next(1); got != 0 {
		t.Errorf("Next: %d, not 0", got)
	}
	answers(t, "Add of the last name", v.Add(id(1, topOp)), api.ErrThere)
	answers(t, "Add beyond it", v.Add(id(1, topOp+1)), api.ErrForm)
	tells(t, v, 1, topOp)
}

// P8.2: Next is one more than a replica's number; 0, where 2^20 are there.
func TestNext(t *testing.T) {
	for r := range replicas {
		for _, c := range [][2]int{{0, 1}, {1, 2}, {2, 3}, {127, 128}, {topOp - 2, topOp - 1}, {topOp - 1, topOp}, {topOp, 0}} {
			v := of(t, at(r, c[0])...)
			for other := range replicas {
				want := 1
				if other == r {
					want = c[1]
				}
				if got := v.Next(other); got != want {
					t.Errorf("Next(%d) of %v: %d, not %d", other, v.Have(), got, want)
				}
			}
			tells(t, v, at(r, c[0])...)
		}
	}
}

// P8.2: Next is 0 for what is no replica.
func TestNextOfNone(t *testing.T) {
	for _, list := range some() {
		v := of(t, list...)
		for _, r := range wrongReplicas() {
			if got := v.Next(r); got != 0 {
				t.Errorf("Next(%d) of %v: %d, not 0", r, list, got)
			}
		}
	}
}

// P8.2: the first of the chapter's examples.
func TestExampleEarly(t *testing.T) {
	v := New()
	answers(t, "Add of 2.1", v.Add(id(2, 1)), api.OK)
	answers(t, "Add of 2.3", v.Add(id(2, 3)), api.ErrEarly)
	tells(t, v, 0, 0, 1)
}

// ---- P8.3 ----

// P8.3: the second of the chapter's examples.
func TestExampleMissing(t *testing.T) {
	misses(t, of(t, 0, 0, 1), of(t, 0, 0, 4), api.Cut{Op: api.Id{R: 2, N: 2}, From: 2, To: 5})
	misses(t, of(t, 0, 0, 4), of(t, 0, 0, 1))
}

// P8.3: behind a Join each number is the greater one of both; the other vector is as it was.
func TestJoin(t *testing.T) {
	for _, c := range []struct{ v, w, want []int }{
		{full(), full(), full()},
		{full(1, 2, 3), full(), full(1, 2, 3)},
		{full(), full(1, 2, 3), full(1, 2, 3)},
		{full(5, 1, 4, 4), full(2, 6, 4, 5), full(5, 6, 4, 5)},
		{at(0, 3), at(15, 4), []int{3, 0, 0, 0, 0, 0, 0, 0, 0, 0, 0, 0, 0, 0, 0, 4}},
		{at(0, topOp), at(15, topOp), []int{topOp, 0, 0, 0, 0, 0, 0, 0, 0, 0, 0, 0, 0, 0, 0, topOp}},
		{full(topOp, topOp-1), full(topOp-1, topOp), full(topOp, topOp)},
	} {
		v, w := of(t, c.v...), of(t, c.w...)
		v.Join(w)
		tells(t, v, c.want...)
		tells(t, w, c.w...)
		v.Join(w)
		tells(t, v, c.want...)
		other := of(t, c.v...)
		w.Join(other)
		tells(t, w, c.want...)
		tells(t, other, c.v...)
	}
}

// P8.3: of all pairs: a Join covers both, and has nothing else.
func TestJoinPairs(t *testing.T) {
	for _, a := range some() {
		for _, b := range some() {
			v, w := of(t, a...), of(t, b...)
			v.Join(w)
			if !v.Covers(w) || !v.Covers(of(t, a...)) {
				t.Errorf("the Join of %v and %v: %v", a, b, v.Have())
			}
			for r, n := range v.Have() {
				if n != a[r] && n != b[r] {
					t.Errorf("the Join of %v and %v: %v", a, b, v.Have())
				}
			}
			if w.Covers(v) != w.Covers(of(t, a...)) {
				t.Errorf("%v covers the Join, but not %v, or the other way", b, a)
			}
		}
	}
}

// P8.3: a vector joined with itself is what it was; it covers itself, and nothing is missing.
func TestItself(t *testing.T) {
	for _, list := range some() {
		v := of(t, list...)
		v.Join(v)
		tells(t, v, list...)
		misses(t, v, v)
	}
}

// P8.3: Covers holds where none of the other's numbers is above, whatever the others are.
func TestCovers(t *testing.T) {
	for r := range replicas {
		for _, n := range []int{1, 2, 500, topOp - 1, topOp} {
			v := of(t, at(r, n)...)
			less := of(t, at(r, n-1)...)
			misses(t, v, less)
			misses(t, v, of(t, at(r, n)...))
			misses(t, v, New())
			misses(t, less, v, cut(r, n, n+1))
			misses(t, New(), v, cut(r, 1, n+1))
			other := (r + 1) % replicas
			misses(t, v, of(t, at(other, 1)...), cut(other, 1, 2))
		}
	}
	if v, w := of(t, 5, 1), of(t, 1, 5); v.Covers(w) || w.Covers(v) {
		t.Error("Covers of vectors of which each has more of one replica")
	}
}

// P8.3: Missing tells, replica by replica, what the other one has more.
func TestMissing(t *testing.T) {
	var all []api.Cut
	whole, rising := make([]int, replicas), make([]int, replicas)
	for r := range replicas {
		whole[r], rising[r] = topOp, r
		all = append(all, cut(r, r+1, topOp+1))
	}
	misses(t, New(), New())
	misses(t, of(t, rising...), of(t, whole...), all...)
	misses(t, of(t, whole...), of(t, rising...))
	misses(t, of(t, 0, 0, 2, 0, 0, 0, 0, 0, 0, 0, 0, 0, 0, 0, 0, 1), of(t, 1, 0, 5, topOp), cut(0, 1, 2), cut(2, 3, 6), cut(3, 1, topOp+1))
	misses(t, of(t, 1, 0, 5, topOp), of(t, 0, 0, 2, 0, 0, 0, 0, 0, 0, 0, 0, 0, 0, 0, 0, 1), cut(15, 1, 2))
	misses(t, of(t, 3, 3, 3, 3), of(t, 4, 2, 3, 9), cut(0, 4, 5), cut(3, 4, 10))
	misses(t, of(t, topOp-1, topOp), of(t, topOp, topOp-1), cut(0, topOp, topOp+1))
	misses(t, of(t, at(7, 1)...), of(t, at(8, 1)...), cut(8, 1, 2))
}

// P8.3: what Missing tells, added in its order, makes the Join of both.
func TestMissingAdded(t *testing.T) {
	for _, a := range some() {
		for _, b := range some() {
			v, w := of(t, a...), of(t, b...)
			cuts := v.Missing(w)
			last := -1
			for _, c := range cuts {
				if c.Op.R <= last || c.Op.N != c.From || c.From >= c.To {
					t.Errorf("Missing of %v and %v: %v", a, b, cuts)
				}
				last = c.Op.R
			}
			joined := v.Clone()
			joined.Join(w)
			if joined.Count()-v.Count() > 2*topOp {
				continue
			}
			addAll(t, v, cuts)
			tells(t, v, joined.Have()...)
			misses(t, v, w)
		}
	}
}

// P8.3: Count tells all numbers together.
func TestCount(t *testing.T) {
	if got := New().Count(); got != 0 {
		t.Errorf("Count of noughts: %d", got)
	}
	v := New()
	for r := range replicas {
		v.Join(of(t, at(r, topOp)...))
		if got := v.Count(); got != (r+1)*topOp {
			t.Errorf("Count of %d full ones: %d", r+1, got)
		}
	}
	if got := v.Count(); got != 16777216 {
		t.Errorf("Count of full numbers: %d", got)
	}
	if got := of(t, 1, 2, 3, 4, 5, 6, 7, 8, 9, 10, 11, 12, 13, 14, 15, 16).Count(); got != 136 {
		t.Errorf("Count: %d, not 136", got)
	}
}

// ---- P8.4 ----

// P8.4: what Of is handed in isn't changed, nor what lies behind its length, by the call and by those behind it; and it isn't kept.
func TestListApart(t *testing.T) {
	for count := range replicas + 1 {
		memory := slices.Repeat([]int{3}, 40)
		v, ok := Of(memory[:count])
		if !ok {
			t.Fatalf("Of %d numbers", count)
		}
		want := full(slices.Repeat([]int{3}, count)...)
		tells(t, v, want...)
		for r := range want {
			want[r]++
			answers(t, "Add", v.Add(id(r, want[r])), api.OK)
		}
		v.Join(of(t, 9))
		want[0] = 9
		if slices.ContainsFunc(memory, func(n int) bool { return n != 3 }) {
			t.Errorf("the list of %d is changed: %v", count, memory)
		}
		for i := range memory {
			memory[i] = 77
		}
		tells(t, v, want...)
	}
	for _, wrong := range []int{-1, topOp + 1} {
		memory := []int{1, wrong, 2}
		Of(memory)
		Of(memory[:1])
		if !slices.Equal(memory, []int{1, wrong, 2}) {
			t.Errorf("a list that is refused is changed: %v", memory)
		}
	}
}

// P8.4: a vector that is handed in to Join, Covers or Missing isn't kept: neither is changed when the other one is.
func TestVectorApart(t *testing.T) {
	v, w := New(), of(t, 1, 2, 3)
	v.Join(w)
	answers(t, "Add", w.Add(id(0, 2)), api.OK)
	tells(t, v, 1, 2, 3)
	tells(t, w, 2, 2, 3)
	answers(t, "Add", v.Add(id(1, 3)), api.OK)
	tells(t, v, 1, 3, 3)
	tells(t, w, 2, 2, 3)
	cuts := v.Missing(w)
	v.Covers(w)
	addAll(t, w, []api.Cut{cut(0, 3, 9)})
	tells(t, v, 1, 3, 3)
	if !slices.Equal(cuts, []api.Cut{cut(0, 2, 3)}) {
		t.Errorf("what Missing told is changed: %v", cuts)
	}
}

// P8.4: what Have answers is new memory, spare room too: it may be changed, and isn't changed by what the vector does then.
func TestHaveIsNew(t *testing.T) {
	v := of(t, 4, 5, 6)
	first, second := v.Have(), v.Have()
	spare := first[:cap(first)]
	for i := range spare {
		spare[i] = -7
	}
	tells(t, v, 4, 5, 6)
	if !slices.Equal(second, full(4, 5, 6)) {
		t.Errorf("two answers share memory: %v", second)
	}
	answers(t, "Add", v.Add(id(0, 5)), api.OK)
	v.Join(of(t, 0, 0, 0, 8))
	if !slices.Equal(second, full(4, 5, 6)) {
		t.Errorf("an answer is changed by what the vector does behind it: %v", second)
	}
	tells(t, v, 5, 5, 6, 8)
}

// P8.4: what Missing answers is new memory, spare room too.
func TestMissingIsNew(t *testing.T) {
	v, w := of(t, 1, 1, 1), of(t, 2, 3, 4, 5, 6)
	want := []api.Cut{cut(0, 2, 3), cut(1, 2, 4), cut(2, 2, 5), cut(3, 1, 6), cut(4, 1, 7)}
	first, second := v.Missing(w), v.Missing(w)
	spare := first[:cap(first)]
	for i := range spare {
		spare[i] = api.Cut{Op: id(-1, -2), From: -3, To: -4}
	}
	if !slices.Equal(second, want) {
		t.Errorf("two answers share memory: %v", second)
	}
	misses(t, v, w, want...)
}

// P8.4: what is asked changes nothing, however often.
func TestAskedTwice(t *testing.T) {
	for _, list := range some() {
		v, w := of(t, list...), of(t, 3, 1, 2)
		for range 3 {
			v.Next(0)
			v.Covers(w)
			v.Missing(w)
			v.Clone()
			tells(t, v, list...)
			tells(t, w, 3, 1, 2)
		}
	}
}

// ---- P1 ----

// P1: every call ends and none panics, at any arguments.
func TestAnyArguments(t *testing.T) {
	numbers := append(wrongNumbers(), 0, 1, 2, 14, 15, 16, 17, topOp-1, topOp)
	for _, list := range some() {
		v := of(t, list...)
		for _, r := range numbers {
			v.Next(r)
			for _, n := range numbers {
				v.Has(id(r, n))
				v.Add(id(r, n))
				if w, ok := Of([]int{r, n}); ok {
					v.Missing(w)
					v.Covers(w)
					w.Join(v)
				}
			}
		}
		for _, n := range v.Have() {
			if n < 0 || n > topOp {
				t.Errorf("a number %d", n)
			}
		}
	}
}
