package vec

import (
	"slices"
	"testing"

	"offshoot/api"
)

// ---- the chapter's rules, told another way ----

// names are all ops' names that a vector has, one by one.
type names map[api.Id]bool

// named: the names that a vector of these numbers has.
func named(numbers []int) names {
	m := names{}
	for r, n := range numbers {
		for i := range n {
			m[id(r, i+1)] = true
		}
	}
	return m
}

// add: what Add answers; where that is OK, there is one name more.
func (m names) add(name api.Id) api.Errno {
	ahead := id(name.R, name.N-1)
	switch {
	case name.R < 0 || name.R > 15 || name.N < 1 || name.N > topOp:
		return api.ErrForm
	case m[name]:
		return api.ErrThere
	case name.N > 1 && !m[ahead]:
		return api.ErrEarly
	}
	m[name] = true
	return api.OK
}

// next: a replica's first number, of which there is no name.
func (m names) next(r int) int {
	if r < 0 || r > 15 {
		return 0
	}
	n := 1
	for m[id(r, n)] {
		n++
	}
	return n
}

// join: all names of the other one are here too.
func (m names) join(w names) {
	for name := range w {
		m[name] = true
	}
}

// missing: the names that the other one has more, each behind those ahead of it, those of one replica together.
func (m names) missing(w names) []api.Cut {
	var more []api.Id
	for name := range w {
		if !m[name] {
			more = append(more, name)
		}
	}
	slices.SortFunc(more, func(a, b api.Id) int { return (a.R*topOp + a.N) - (b.R*topOp + b.N) })
	var cuts []api.Cut
	for _, name := range more {
		if last := len(cuts) - 1; last >= 0 && cuts[last].Op.R == name.R {
			cuts[last].To++
		} else {
			cuts = append(cuts, cut(name.R, name.N, name.N+1))
		}
	}
	return cuts
}

// have: of each replica how many names there are.
func (m names) have() []int {
	list := make([]int, 16)
	for name := range m {
		list[name.R]++
	}
	return list
}

// source: numbers that look random, the same ones at each run.
func source(seed uint64) func(n int) int {
	return func(n int) int {
		seed = seed*6364136223846793005 + 1442695040888963407
		return int(seed>>33) % n
	}
}

// pair is a vector, and what it should be.
type pair struct {
	v *Vec
	m names
}

// made: a vector of some small numbers.
func made(t *testing.T, pick func(int) int) pair {
	t.Helper()
	numbers := make([]int, pick(replicas+1))
	for i := range numbers {
		numbers[i] = pick(6)
	}
	v, ok := Of(numbers)
	if v == nil || !ok {
		t.Fatalf("Of(%v): %v", numbers, ok)
	}
	return pair{v, named(numbers)}
}

// asked: does a vector answer to each name and to each replica as it should?
func asked(t *testing.T, p pair) {
	t.Helper()
	for r := -2; r < replicas+2; r++ {
		for n := -2; n < 12; n++ {
			if got := p.v.Has(id(r, n)); got != p.m[id(r, n)] {
				t.Errorf("Has(%d.%d) of %v: %v", r, n, p.m.have(), got)
			}
		}
		if got, want := p.v.Next(r), p.m.next(r); got != want {
			t.Errorf("Next(%d) of %v: %d, not %d", r, p.m.have(), got, want)
		}
	}
	tells(t, p.v, p.m.have()...)
}

// held: do two vectors tell of one another what they should?
func held(t *testing.T, p, q pair) {
	t.Helper()
	want := p.m.missing(q.m)
	misses(t, p.v, q.v, want...)
	w := p.v.Clone()
	addAll(t, w, want)
	if !w.Covers(q.v) {
		t.Errorf("%v, with what was missing, doesn't cover %v", p.m.have(), q.m.have())
	}
	w.Join(q.v)
	both := named(p.m.have())
	both.join(q.m)
	tells(t, w, both.have()...)
}

// P8.1 to P8.3: whatever is called in whatever order, a vector is what the chapter's rules make it.
func TestByRules(t *testing.T) {
	pick := source(8)
	for i := range 300 {
		pairs := []pair{made(t, pick), made(t, pick), {New(), names{}}}
		for range 30 {
			k, other := pick(len(pairs)), pick(len(pairs))
			p, q := pairs[k], pairs[other]
			switch pick(6) {
			case 0, 1, 2:
				name := id(pick(20)-2, pick(9)-1)
				answers(t, "Add", p.v.Add(name), p.m.add(name))
			case 3:
				p.v.Join(q.v)
				p.m.join(q.m)
			case 4:
				pairs[k] = pair{q.v.Clone(), named(q.m.have())}
			case 5:
				held(t, p, q)
			}
		}
		for _, p := range pairs {
			asked(t, p)
		}
		if t.Failed() {
			t.Fatalf("at the %d-th row of calls", i)
		}
	}
}

// P8.2: all small numbers and names, one by one.
func TestAddByRules(t *testing.T) {
	for r := range replicas {
		for n := range 6 {
			for other := range 3 {
				numbers := slices.Repeat([]int{other}, replicas)
				numbers[r] = n
				for number := -2; number < 10; number++ {
					v, m := of(t, numbers...), named(numbers)
					answers(t, "Add", v.Add(id(r, number)), m.add(id(r, number)))
					tells(t, v, m.have()...)
				}
			}
		}
	}
}

// P8.3: all vectors of three replicas with small numbers, each held against each.
func TestPairsByRules(t *testing.T) {
	var pairs []pair
	for i := range 64 {
		numbers := full(i%4, i/4%4)
		numbers[15] = i / 16
		pairs = append(pairs, pair{of(t, numbers...), named(numbers)})
	}
	for _, p := range pairs {
		for _, q := range pairs {
			held(t, p, q)
		}
	}
}
