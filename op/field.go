package op

import (
	"slices"

	"offshoot/api"
	"offshoot/frac"
	"offshoot/stamp"
)

// field is a field of an op that some kinds tell, and others don't.
type field int

const (
	fieldBlock field = iota
	fieldParent
	fieldKey
	fieldSeg
	fieldLeft
	fieldRight
	fieldText
	fieldCuts
	fieldFlag
	fieldCount // how many there are
)

// told: the fields that a kind tells, in the order of their bytes; none, if there is no such kind.
func told(kind int) []field {
	switch kind {
	case api.KNew:
		return []field{fieldParent, fieldKey}
	case api.KMove:
		return []field{fieldBlock, fieldParent, fieldKey}
	case api.KInsert:
		return []field{fieldSeg, fieldLeft, fieldRight, fieldText}
	case api.KDelete:
		return []field{fieldCuts}
	case api.KSplit:
		return []field{fieldSeg, fieldLeft, fieldRight, fieldParent, fieldKey}
	case api.KFold:
		return []field{fieldBlock, fieldFlag}
	}
	return nil
}

// right: is a field right in an op that tells it?
func right(o api.Op, f field) bool {
	switch f {
	case fieldBlock:
		return stamp.RightOp(o.Block)
	case fieldParent:
		return stamp.RightBlock(o.Parent)
	case fieldKey:
		return frac.Right(o.Key)
	case fieldSeg:
		return stamp.RightOp(o.Seg)
	case fieldLeft:
		return stamp.RightChar(o.Left)
	case fieldRight:
		return stamp.RightChar(o.Right)
	case fieldText:
		return len(o.Text) >= 1 && len(o.Text) <= api.MaxText
	case fieldCuts:
		return rightCuts(o.Cuts)
	}
	return true
}

// rightCuts: are these the cuts of a right op?
func rightCuts(list []api.Cut) bool {
	wrong := func(c api.Cut) bool {
		return !stamp.RightOp(c.Op) || c.From < 0 || c.From >= c.To || c.To > api.MaxText
	}
	return len(list) >= 1 && len(list) <= api.MaxCuts && !slices.ContainsFunc(list, wrong)
}

// nought: is there nothing in a field?
func nought(o api.Op, f field) bool {
	switch f {
	case fieldBlock:
		return o.Block == api.Id{}
	case fieldParent:
		return o.Parent == api.Id{}
	case fieldKey:
		return o.Key == ""
	case fieldSeg:
		return o.Seg == api.Id{}
	case fieldLeft:
		return o.Left == api.Char{}
	case fieldRight:
		return o.Right == api.Char{}
	case fieldText:
		return o.Text == ""
	case fieldCuts:
		return len(o.Cuts) == 0
	}
	return !o.Flag
}
