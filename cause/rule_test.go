package cause

import (
	"slices"
	"testing"

	"offshoot/api"
	"offshoot/op"
	"offshoot/vec"
)

// ---- the chapter's rules, told another way ----

// names are all ops' names that a vector has, one by one.
type names map[api.Id]bool

// ahead: the names of all that comes ahead of an op.
func ahead(o api.Op) []api.Id {
	var list []api.Id
	switch o.Kind {
	case api.KNew:
		list = []api.Id{o.Parent}
	case api.KMove:
		list = []api.Id{o.Block, o.Parent}
	case api.KInsert:
		list = []api.Id{o.Seg, o.Left.Op, o.Right.Op}
	case api.KDelete:
		for _, c := range o.Cuts {
			list = append(list, c.Op)
		}
	case api.KSplit:
		list = []api.Id{o.Seg, o.Left.Op, o.Right.Op, o.Parent}
	case api.KFold:
		list = []api.Id{o.Block}
	}
	list = append(list, id(o.Id.R, o.Id.N-1))
	return slices.DeleteFunc(list, func(x api.Id) bool { return x.N == 0 })
}

// ready: an op is right, isn't there, and all ahead of it is.
func (m names) ready(o api.Op) bool {
	for _, name := range ahead(o) {
		if !m[name] {
			return false
		}
	}
	return op.Right(o) && !m[o.Id]
}

// queue is ops that wait, in the order of their names.
type queue []api.Op

func (q queue) names() []api.Id {
	var list []api.Id
	for _, o := range q {
		list = append(list, o.Id)
	}
	return list
}

// offer: what Offer answers; where that is OK, there is one op more, ahead of those that come behind it.
func (q *queue) offer(m names, o api.Op) api.Errno {
	switch {
	case !op.Right(o):
		return api.ErrForm
	case m[o.Id], slices.Contains(q.names(), o.Id):
		return api.ErrThere
	case len(*q) > 63 && !m.ready(o):
		return api.ErrFull
	}
	place := 0
	for _, other := range *q {
		if other.Id.R < o.Id.R || other.Id.R == o.Id.R && other.Id.N < o.Id.N {
			place++
		}
	}
	*q = slices.Insert(*q, place, op.Clone(o))
	return api.OK
}

// take: the first one that is ready.
func (q *queue) take(m names) (api.Op, bool) {
	for i, o := range *q {
		if m.ready(o) {
			*q = slices.Delete(*q, i, i+1)
			return o, true
		}
	}
	return api.Op{}, false
}

// drop: those that are there wait no more.
func (q *queue) drop(m names) int {
	count := 0
	for i := len(*q) - 1; i >= 0; i-- {
		if m[(*q)[i].Id] {
			*q = slices.Delete(*q, i, i+1)
			count++
		}
	}
	return count
}

// source: numbers that look random, the same ones at each run.
func source(seed uint64) func(n int) int {
	return func(n int) int {
		seed = seed*6364136223846793005 + 1442695040888963407
		return int(seed>>33) % n
	}
}

// shuffled: the numbers below one, in some order.
func shuffled(pick func(int) int, n int) []int {
	list := make([]int, n)
	for i := range list {
		k := pick(i + 1)
		list[i], list[k] = list[k], i
	}
	return list
}

// some: an op of some kind that names ops of the first few replicas, now and then one that isn't right.
func some(pick func(int) int, top int) api.Op {
	name := func() api.Id {
		// Below the highest number it more often names what comes ahead of it.
		return id(pick(4), 1+pick(1+pick(top)))
	}
	list := slots()
	o := list[pick(len(list))].op(name(), name(), name())
	switch pick(9) {
	case 0:
		o.T = 0
	case 1, 2:
		o = block(o.Id.R, o.Id.N)
	}
	return o
}

// vector is a vector, and what it should have.
type vector struct {
	v *vec.Vec
	m names
}

// add: one more is there, if it is the next one.
func (p vector) add(name api.Id) {
	if p.v.Add(name) == api.OK {
		p.m[name] = true
	}
}

// same: do a buffer and what it should be wait for the same?
func same(t *testing.T, b *Buffer, q queue) {
	t.Helper()
	if got, want := b.Ids(), q.names(); !slices.Equal(got, want) || b.Count() != len(want) {
		t.Errorf("Ids: %v, not %v; Count: %d", got, want, b.Count())
	}
}

// step: one call, of a buffer and of what it should be.
func step(t *testing.T, pick func(int) int, top int, p vector, b *Buffer, q *queue) {
	t.Helper()
	switch pick(12) {
	case 0:
		p.add(id(pick(4), 1+pick(top)))
	case 1:
		if got, want := b.Drop(p.v), q.drop(p.m); got != want {
			t.Errorf("Drop: %d, not %d", got, want)
		}
	case 2, 3:
		got, ok := b.Take(p.v)
		want, found := q.take(p.m)
		if ok != found || !op.Same(got, want) {
			t.Errorf("Take: %+v, %v, not %+v, %v", got, ok, want, found)
		}
		if ok && pick(8) > 0 {
			p.add(got.Id)
		}
	default:
		o := some(pick, top)
		if got, want := Ready(p.v, o), p.m.ready(o); got != want {
			t.Errorf("Ready of %+v: %v, not %v", o, got, want)
		}
		if got, want := b.Offer(p.v, o), q.offer(p.m, o); got != want {
			t.Errorf("Offer of %+v: %d, not %d", o, int(got), int(want))
		}
	}
	same(t, b, *q)
}

// P9.1 to P9.3: whatever is called in whatever order, a buffer is what the chapter's rules make it.
func TestByRules(t *testing.T) {
	pick := source(4)
	seen := 0
	for i := range 400 {
		top := 1 + pick(60)
		b, q := New(), queue{}
		vectors := []vector{{vec.New(), names{}}, {vec.New(), names{}}}
		for range 300 {
			// Mostly the first one: the other one lags behind it.
			p := vectors[pick(8)/7]
			step(t, pick, top, p, b, &q)
			seen = max(seen, b.Count())
		}
		if t.Failed() {
			t.Fatalf("at the %d-th row of calls", i)
		}
	}
	if seen < room {
		t.Errorf("never more than %d waited", seen)
	}
}

// there: of ops the names of those that come to be there in the end, found by going over all of them till nothing changes.
func there(m names, ops []api.Op) {
	for changed := true; changed; {
		changed = false
		for _, o := range ops {
			if m.ready(o) {
				m[o.Id] = true
				changed = true
			}
		}
	}
}

// P9.4: of ops that were offered in some order, with Takes between, just those wait in the end of which something ahead is missing.
func TestInTheEndByRules(t *testing.T) {
	pick := source(6)
	come, left := 0, 0
	for i := range 600 {
		var ops []api.Op
		for range 1 + pick(room) {
			o := some(pick, 8)
			if op.Right(o) && !slices.ContainsFunc(ops, func(x api.Op) bool { return x.Id == o.Id }) {
				ops = append(ops, o)
			}
		}
		m := names{}
		there(m, ops)
		var want []api.Id
		for _, o := range ops {
			if !m[o.Id] {
				want = append(want, o.Id)
			}
		}
		for range 6 {
			b, v := New(), vec.New()
			for _, k := range shuffled(pick, len(ops)) {
				if wrong := b.Offer(v, ops[k]); wrong != api.OK {
					t.Fatalf("Offer: %d", int(wrong))
				}
				for range pick(3) {
					if o, ok := b.Take(v); ok {
						adds(t, v, o.Id)
					}
				}
			}
			drain(t, b, v)
			waits(t, b, want...)
			if v.Count() != len(m) {
				t.Errorf("%d are there, not %d", v.Count(), len(m))
			}
		}
		come, left = come+len(m), left+len(want)
		if t.Failed() {
			t.Fatalf("at the %d-th ops", i)
		}
	}
	if come < 500 || left < 500 {
		t.Errorf("%d came to be there, %d were left", come, left)
	}
}
