package runs

import (
	"slices"
	"testing"

	"offshoot/api"
)

// ---- the chapter's rules, told another way ----

// letter is one character of a row.
type letter struct {
	name       api.Char
	text       byte
	gone, mark bool
}

// line is a row as its characters, one by one.
type line []letter

// place: where a character stands, or -1.
func (l line) place(c api.Char) int {
	return slices.IndexFunc(l, func(x letter) bool { return x.name == c })
}

// put: what Put answers; where that is OK, the characters stand there.
func (l *line) put(at int, x api.Item) api.Errno {
	name := x.Op.R >= 0 && x.Op.R < 16 && x.Op.N >= 1 && x.Op.N <= 1048576
	if !name || x.Len < 1 || x.Len > 64 || x.From < 0 || x.From+x.Len > 64 || len(x.Text) != x.Len || x.Mark && x.Len > 1 {
		return api.ErrForm
	}
	if at < 0 || at > len(*l) {
		return api.ErrRange
	}
	var fresh line
	for i := range x.Len {
		c := api.Char{Op: x.Op, I: x.From + i}
		if l.place(c) >= 0 {
			return api.ErrThere
		}
		fresh = append(fresh, letter{c, x.Text[i], x.Gone, x.Mark})
	}
	*l = slices.Insert(*l, at, fresh...)
	return api.OK
}

// cut: how many weren't gone ahead of it.
func (l line) cut(c api.Cut) int {
	count := 0
	for i := range l {
		if x := &l[i]; x.name.Op == c.Op && c.From <= x.name.I && x.name.I < c.To && !x.gone {
			x.gone = true
			count++
		}
	}
	return count
}

// runs: each character that can't be one run with the one ahead of it begins one.
func (l line) runs() []api.Item {
	var list []api.Item
	for i, x := range l {
		if i > 0 {
			last := l[i-1]
			next := api.Char{Op: last.name.Op, I: last.name.I + 1}
			if x.name == next && x.gone == last.gone && !x.mark && !last.mark {
				list[len(list)-1].Len++
				list[len(list)-1].Text += string([]byte{x.text})
				continue
			}
		}
		list = append(list, api.Item{Op: x.name.Op, From: x.name.I, Len: 1, Gone: x.gone, Mark: x.mark, Text: string([]byte{x.text})})
	}
	return list
}

// source: numbers that look random, the same ones at each run.
func source(seed uint64) func(n int) int {
	return func(n int) int {
		seed = seed*6364136223846793005 + 1442695040888963407
		return int(seed>>33) % n
	}
}

// some: characters of one of a few ops, now and then some that aren't right.
func some(pick func(int) int, ops int) api.Item {
	x := item(pick(2), 1+pick(ops), pick(12), letters(1+pick(1+pick(6))))
	x.Gone = pick(5) == 0
	if pick(6) == 0 {
		x.Mark, x.Len, x.Text = true, 1, "m"
	}
	switch pick(40) {
	case 0:
		x.Len += pick(3) - 1
	case 1:
		x.From = pick(80) - 8
	case 2:
		x.Op = id(pick(20)-2, pick(3)-1)
	case 3:
		x.Mark = true
	}
	return x
}

// beside: characters that could be one run with those at some place, and a place beside them.
func beside(pick func(int) int, l line) (int, api.Item) {
	if len(l) == 0 {
		return 0, item(0, 1, 3, "a")
	}
	at := pick(len(l))
	near := l[at]
	text := letters(1 + pick(3))
	x := item(near.name.Op.R, near.name.Op.N, near.name.I+1, text)
	x.Gone = near.gone
	if pick(2) == 0 {
		x.From = near.name.I - len(text)
		return at, x
	}
	return at + 1, x
}

// step: one call, of a row and of what it should be.
func step(t *testing.T, pick func(int) int, ops int, w *Row, l *line) {
	t.Helper()
	switch pick(4) {
	case 0:
		c := cut(pick(2), 1+pick(ops), pick(16)-2, pick(18)-2)
		if got, want := w.Cut(c), l.cut(c); got != want {
			t.Errorf("Cut of %+v: %d, not %d", c, got, want)
		}
	case 1:
		at, x := beside(pick, *l)
		if got, want := w.Put(at, x), l.put(at, x); got != want {
			t.Errorf("Put of %s at %d: %d, not %d", shown(x), at, int(got), int(want))
		}
	default:
		at, x := pick(len(*l)+1), some(pick, ops)
		if pick(20) == 0 {
			at += pick(9) - 4
		}
		if got, want := w.Put(at, x), l.put(at, x); got != want {
			t.Errorf("Put of %s (Len %d) at %d: %d, not %d", shown(x), x.Len, at, int(got), int(want))
		}
	}
	c := char(pick(2), 1+pick(ops), pick(20)-2)
	got, ok := w.Find(c)
	want := l.place(c)
	if ok != (want >= 0) || got != max(want, 0) {
		t.Errorf("Find of %+v: %d, %v, not %d", c, got, ok, want)
	}
	is(t, w, l.runs()...)
}

// P10.1 to P10.3: whatever is called in whatever order, a row is what the chapter's rules make it.
func TestByRules(t *testing.T) {
	pick := source(10)
	parts, joins := 0, 0
	for i := range 300 {
		w, l := New(), line{}
		ops := 1 + pick(4)
		for range 60 {
			before, all := len(l.runs()), len(l)
			step(t, pick, ops, w, &l)
			behind := len(l.runs())
			switch {
			case behind > before+1:
				parts++
			case behind < before, behind == before && len(l) > all:
				joins++
			}
		}
		if t.Failed() {
			t.Fatalf("at the %d-th row of calls", i)
		}
	}
	if parts < 500 || joins < 500 {
		t.Errorf("runs were parted %d times and joined %d times", parts, joins)
	}
}
