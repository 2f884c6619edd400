package op

import (
	"offshoot/api"
	"offshoot/num"
)

// writer gathers bytes.
type writer struct{ out []byte }

// numbers writes numbers. None is refused: all that right ops tell are right ones.
func (w *writer) numbers(list ...int) {
	for _, n := range list {
		b, _ := num.Put(n)
		w.out = append(w.out, b...)
	}
}

// text writes a text.
func (w *writer) text(s string) { w.out = append(w.out, num.PutText(s)...) }

// name writes a name.
func (w *writer) name(id api.Id) { w.numbers(id.R, id.N) }

// char writes a character.
func (w *writer) char(c api.Char) { w.numbers(c.Op.R, c.Op.N, c.I) }

// cuts writes how many there are, and each.
func (w *writer) cuts(list []api.Cut) {
	w.numbers(len(list))
	for _, c := range list {
		w.numbers(c.Op.R, c.Op.N, c.From, c.To)
	}
}

// flag writes 0 or 1.
func (w *writer) flag(on bool) {
	if on {
		w.numbers(1)
	} else {
		w.numbers(0)
	}
}

// field writes a field of an op.
func (w *writer) field(o api.Op, f field) {
	switch f {
	case fieldBlock:
		w.name(o.Block)
	case fieldParent:
		w.name(o.Parent)
	case fieldKey:
		w.text(o.Key)
	case fieldSeg:
		w.name(o.Seg)
	case fieldLeft:
		w.char(o.Left)
	case fieldRight:
		w.char(o.Right)
	case fieldText:
		w.text(o.Text)
	case fieldCuts:
		w.cuts(o.Cuts)
	case fieldFlag:
		w.flag(o.Flag)
	}
}

// reader takes what a writer wrote. What its bounds let through may still not be right.
type reader struct{ *num.Cursor }

// name takes a name.
func (r reader) name() api.Id {
	replica := r.Num(api.MaxReplicas - 1)
	number := r.Num(api.MaxOps)
	return api.Id{R: replica, N: number}
}

// char takes a character.
func (r reader) char() api.Char {
	op := r.name()
	return api.Char{Op: op, I: r.Num(api.MaxText - 1)}
}

// cuts takes how many there are, and each.
func (r reader) cuts() []api.Cut {
	list := make([]api.Cut, r.Num(api.MaxCuts))
	for i := range list {
		op := r.name()
		from := r.Num(api.MaxText)
		to := r.Num(api.MaxText)
		list[i] = api.Cut{Op: op, From: from, To: to}
	}
	return list
}

// field takes a field of an op.
func (r reader) field(o *api.Op, f field) {
	switch f {
	case fieldBlock:
		o.Block = r.name()
	case fieldParent:
		o.Parent = r.name()
	case fieldKey:
		o.Key = r.Text(api.MaxKey)
	case fieldSeg:
		o.Seg = r.name()
	case fieldLeft:
		o.Left = r.char()
	case fieldRight:
		o.Right = r.char()
	case fieldText:
		o.Text = r.Text(api.MaxText)
	case fieldCuts:
		o.Cuts = r.cuts()
	case fieldFlag:
		o.Flag = r.Num(1) == 1
	}
}
