package yata

import (
	"cmp"
	"slices"
	"testing"

	"offshoot/api"
	"offshoot/runs"
)

// ---- the chapter's rules, told another way ----

// step is a part of the way from the beginning to a character: the side, and the op whose character comes there.
type step struct {
	right bool
	by    api.Id
}

// letter is a character with its way from the beginning.
type letter struct {
	name       api.Char
	text       byte
	gone, mark bool
	way        []step
	over       []api.Char // those above it, from the beginning on
}

// page is a text as its characters, in no order.
type page []*letter

// find: the character of that name, or nil.
func (p page) find(c api.Char) *letter {
	for _, l := range p {
		if l.name == c {
			return l
		}
	}
	return nil
}

// below: a character whose parent and side these are.
func (p page) below(parent, name api.Char, right bool, text byte) *letter {
	l := &letter{name: name, text: text, over: []api.Char{none}}
	var way []step
	if up := p.find(parent); up != nil {
		l.over = append(slices.Clone(up.over), parent)
		way = slices.Clone(up.way)
	}
	l.way = append(way, step{right, name.Op})
	return l
}

// insert: what Insert answers of an op that is right; where that is OK, its characters are there.
func (p *page) insert(o api.Op) api.Errno {
	if p.find(api.Char{Op: o.Id}) != nil {
		return api.ErrThere
	}
	for _, c := range []api.Char{o.Left, o.Right} {
		if c != none && p.find(c) == nil {
			return api.ErrNone
		}
	}
	parent, right := o.Left, true
	if o.Right != none && (o.Left == none || slices.Contains(p.find(o.Right).over, o.Left)) {
		parent, right = o.Right, false
	}
	text := o.Text
	if o.Kind == api.KSplit {
		text = "\x00"
	}
	for i := range len(text) {
		name := api.Char{Op: o.Id, I: i}
		l := p.below(parent, name, right, text[i])
		l.mark = o.Kind == api.KSplit
		*p = append(*p, l)
		parent, right = name, true
	}
	return api.OK
}

// delete: how many weren't gone ahead of it.
func (p page) delete(c api.Cut) int {
	count := 0
	for _, l := range p {
		if l.name.Op == c.Op && c.From <= l.name.I && l.name.I < c.To && !l.gone {
			l.gone = true
			count++
		}
	}
	return count
}

// before: which of two stands first? Their ways part somewhere: there the left comes ahead of the one who ends there, and that ahead of the right; on one side, by names.
func before(a, b *letter) int {
	side := func(l *letter, i int) int {
		switch {
		case i == len(l.way):
			return 0
		case l.way[i].right:
			return 1
		default:
			return -1
		}
	}
	i := 0
	for i < len(a.way) && i < len(b.way) && a.way[i] == b.way[i] {
		i++
	}
	if d := cmp.Compare(side(a, i), side(b, i)); d != 0 || i == len(a.way) {
		return d
	}
	x, y := a.way[i].by, b.way[i].by
	return cmp.Or(cmp.Compare(x.R, y.R), cmp.Compare(x.N, y.N))
}

// row: the characters in order.
func (p page) row() page {
	return slices.SortedFunc(slices.Values(p), before)
}

// runs: those of layer 10's row with these characters.
func (p page) runs() []api.Item {
	w := runs.New()
	for i, l := range p.row() {
		w.Put(i, api.Item{Op: l.name.Op, From: l.name.I, Len: 1, Gone: l.gone, Mark: l.mark, Text: string([]byte{l.text})})
	}
	return w.Runs()
}

// source: numbers that look random, the same ones at each run.
func source(seed uint64) func(n int) int {
	return func(n int) int {
		seed = seed*6364136223846793005 + 1442695040888963407
		return int(seed>>33) % n
	}
}

// ---- rows of calls ----

// some: a character of the page, one that isn't there, or noughts.
func (p page) some(pick func(int) int) api.Char {
	switch k := pick(12); {
	case k == 0:
		return none
	case k == 1 && pick(3) == 0:
		return char(pick(4), 1+pick(9), pick(6))
	case len(p) == 0:
		return none
	default:
		return p[pick(len(p))].name
	}
}

// beside: two neighbours.
func (p page) beside(pick func(int) int) (left, right api.Char) {
	row := p.row()
	k := pick(len(row) + 1)
	if k > 0 {
		left = row[k-1].name
	}
	if k < len(row) {
		right = row[k].name
	}
	return left, right
}

// next: an op, mostly between neighbours, or with the Left and Right of one ahead of it.
func next(pick func(int) int, p page, done []api.Op) api.Op {
	left, right := p.some(pick), p.some(pick)
	switch pick(4) {
	case 0, 1:
		left, right = p.beside(pick)
	case 2:
		if len(done) > 0 {
			o := done[pick(len(done))]
			left, right = o.Left, o.Right
		}
	}
	r, n := pick(4), 1+pick(30)
	if pick(4) == 0 {
		return split(r, n, left, right)
	}
	return in(r, n, left, right, letters(1+pick(1+pick(6))))
}

// holds: does each call tell what the page tells?
func holds(t *testing.T, pick func(int) int, x *Text, p page) {
	t.Helper()
	is(t, x, p.runs()...)
	for range 20 {
		a, b := p.some(pick), p.some(pick)
		l := p.find(b)
		above(t, x, a, b, l != nil && slices.Contains(l.over, a))
		if got, ok := x.Find(b); l == nil && (got != 0 || ok) {
			t.Errorf("Find of %+v: %d, %v, though it isn't there", b, got, ok)
		}
	}
}

// stood: behind an op all others stand as they did.
func stood(t *testing.T, row, later page, o api.Op) {
	t.Helper()
	rest := slices.DeleteFunc(slices.Clone(later), func(l *letter) bool { return l.name.Op == o.Id })
	if !slices.Equal(rest, row) {
		t.Errorf("behind %+v others stand otherwise", o)
	}
}

// P11.1 to P11.3: whatever is called in whatever order, a text is what the chapter's rules make it.
func TestByRules(t *testing.T) {
	pick := source(11)
	lefts, rights := 0, 0
	for i := range 250 {
		x, p := New(), page{}
		var done []api.Op
		for range 30 {
			if pick(5) == 0 {
				c := cut(pick(4), 1+pick(30), pick(6)-1, pick(8)-1)
				if len(done) > 0 {
					c.Op = done[pick(len(done))].Id
				}
				if got, want := x.Delete(c), p.delete(c); got != want {
					t.Errorf("Delete of %+v: %d, not %d", c, got, want)
				}
			} else {
				o := next(pick, p, done)
				row := p.row()
				want := p.insert(o)
				if got := x.Insert(o); got != want {
					t.Errorf("Insert of %+v: %d, not %d", o, int(got), int(want))
				}
				if want == api.OK {
					stood(t, row, p.row(), o)
					done = append(done, o)
				}
			}
			holds(t, pick, x, p)
		}
		for _, l := range p {
			for _, s := range l.way {
				if s.right {
					rights++
				} else {
					lefts++
				}
			}
		}
		if t.Failed() {
			t.Fatalf("at the %d-th row of calls", i)
		}
	}
	if lefts < 10000 || rights < 10000 {
		t.Errorf("%d steps to the left, %d to the right", lefts, rights)
	}
}

// deed is an op that is inserted, or a cut that is deleted.
type deed struct {
	op  api.Op
	cut api.Cut
}

// ready: is what it names there?
func (d deed) ready(x *Text) bool {
	there := func(c api.Char) bool { return c == none || x.Above(none, c) }
	if d.op.Kind == 0 {
		return there(api.Char{Op: d.cut.Op})
	}
	return there(d.op.Left) && there(d.op.Right)
}

// mixed: a text to which all is done in an order by chance, each as soon as what it names is there.
func mixed(t *testing.T, pick func(int) int, deeds []deed) *Text {
	t.Helper()
	x, left := New(), slices.Clone(deeds)
	for tries := 0; len(left) > 0; tries++ {
		if tries > 10000 {
			t.Fatalf("%d of %d things never come to be ready", len(left), len(deeds))
		}
		k := pick(len(left))
		if !left[k].ready(x) {
			continue
		}
		if d := left[k]; d.op.Kind == 0 {
			x.Delete(d.cut)
		} else {
			inserts(t, x, d.op)
		}
		left = slices.Delete(left, k, k+1)
	}
	return x
}

// P11.3: the same inserts and cuts, done in many orders, make the same row; so do they where some are done twice.
func TestOrders(t *testing.T) {
	pick := source(113)
	for i := range 60 {
		p := page{}
		var done []api.Op
		var deeds []deed
		for range 25 {
			if pick(5) == 0 && len(done) > 0 {
				c := api.Cut{Op: done[pick(len(done))].Id, From: pick(4), To: pick(7)}
				p.delete(c)
				deeds = append(deeds, deed{cut: c})
			} else if o := next(pick, p, done); p.insert(o) == api.OK {
				done = append(done, o)
				deeds = append(deeds, deed{op: o})
			}
		}
		want := p.runs()
		for range 12 {
			x := mixed(t, pick, deeds)
			is(t, x, want...)
			for _, o := range done {
				refuses(t, x, o, api.ErrThere)
			}
			for _, a := range p {
				for _, b := range p {
					above(t, x, a.name, b.name, slices.Contains(b.over, a.name))
				}
			}
		}
		if t.Failed() {
			t.Fatalf("at the %d-th row of calls", i)
		}
	}
}

// P11.3: of three ops each with each Left and Right of a small text, in all orders, the row is the same, and by the rules.
func TestAllOrders(t *testing.T) {
	ab := in(1, 5, none, none, "ab")
	ends := []api.Char{none, char(1, 5, 0), char(1, 5, 1)}
	var ops []api.Op
	for _, left := range ends {
		for _, right := range ends {
			k := len(ops)
			ops = append(ops, in(k%3, 10+k, left, right, letters(1+k%2)))
		}
	}
	orders := [][3]int{{0, 1, 2}, {0, 2, 1}, {1, 0, 2}, {1, 2, 0}, {2, 0, 1}, {2, 1, 0}}
	for a := range ops {
		for b := range a {
			for c := range b {
				p := page{}
				three := [3]api.Op{ops[a], ops[b], ops[c]}
				for _, o := range []api.Op{ab, three[0], three[1], three[2]} {
					p.insert(o)
				}
				want := p.runs()
				for _, order := range orders {
					is(t, of(t, ab, three[order[0]], three[order[1]], three[order[2]]), want...)
				}
			}
		}
	}
}
