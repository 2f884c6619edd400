package op

import (
	"bytes"
	"math"
	"reflect"
	"slices"
	"strings"
	"testing"
	"unsafe"

	"offshoot/api"
	"offshoot/num"
)

// The chapter's bounds, written out.
const (
	topReplica = 15
	topNumber  = 1048576
	topTime    = 1099511627776
	topLetter  = 63
	topText    = 64
	topKey     = 32
	topCuts    = 16
	topList    = 1048576
)

func id(r, n int) api.Id { return api.Id{R: r, N: n} }

func char(r, n, i int) api.Char { return api.Char{Op: id(r, n), I: i} }

func cut(r, n, from, to int) api.Cut { return api.Cut{Op: id(r, n), From: from, To: to} }

// times: a text, so many times.
func times(s string, n int) string { return strings.Repeat(s, n) }

// cuts: a right cut, so many times.
func cuts(n int) []api.Cut { return slices.Repeat([]api.Cut{cut(0, 1, 0, 64)}, n) }

// good: a right op of each kind, by its kind.
func good() map[int]api.Op {
	return map[int]api.Op{
		api.KNew:    {Kind: 1, Id: id(1, 2), T: 3, Parent: id(4, 5), Key: "k"},
		api.KMove:   {Kind: 2, Id: id(1, 2), T: 3, Block: id(4, 5), Parent: id(6, 7), Key: "k"},
		api.KInsert: {Kind: 3, Id: id(1, 2), T: 3, Seg: id(4, 5), Left: char(6, 7, 8), Right: char(9, 10, 11), Text: "text"},
		api.KDelete: {Kind: 4, Id: id(1, 2), T: 3, Cuts: []api.Cut{cut(4, 5, 6, 7), cut(8, 9, 10, 11)}},
		api.KSplit:  {Kind: 5, Id: id(1, 2), T: 3, Seg: id(4, 5), Left: char(6, 7, 8), Right: char(9, 10, 11), Parent: id(12, 13), Key: "k"},
		api.KFold:   {Kind: 6, Id: id(1, 2), T: 3, Block: id(4, 5), Flag: true},
	}
}

// holdsRight: does Right answer so, and Encode and EncodeAll with it?
func holdsRight(t *testing.T, o api.Op, want bool) {
	t.Helper()
	if got := Right(o); got != want {
		t.Errorf("Right of %+v: %v", o, got)
	}
	if b, ok := Encode(o); ok != want || (len(b) > 0) != want {
		t.Errorf("Encode of %+v: %q, %v", o, b, ok)
	}
	if b, ok := EncodeAll([]api.Op{o}); ok != want || (len(b) > 0) != want {
		t.Errorf("EncodeAll of %+v: %q, %v", o, b, ok)
	}
}

// holdsWrong: are bytes those of no op?
func holdsWrong(t *testing.T, b []byte) {
	t.Helper()
	if o, ok := Decode(b); ok || !reflect.DeepEqual(o, api.Op{}) {
		t.Errorf("Decode of %v: %+v, %v", b, o, ok)
	}
	if l, ok := DecodeAll(slices.Concat([]byte{1}, num.PutText(string(b)))); ok || len(l) != 0 {
		t.Errorf("DecodeAll of %v: %+v, %v", b, l, ok)
	}
}

// ---- the chapter's rules, told another way ----

func within(from, n, to int) bool { return !(n < from || n > to) }

func opName(x api.Id) bool { return within(0, x.R, topReplica) && within(1, x.N, topNumber) }

func blockName(x api.Id) bool { return opName(x) || x == id(0, 0) || x == id(1, 0) }

func aChar(c api.Char) bool {
	return c == char(0, 0, 0) || opName(c.Op) && within(0, c.I, topLetter)
}

func aKey(k string) bool { return within(1, len(k), topKey) && !strings.HasSuffix(k, "\x00") }

func aCut(c api.Cut) bool { return opName(c.Op) && c.From >= 0 && c.To > c.From && c.To <= topText }

// byRule: the op that has only what its kind tells; an op is right, if that is it, and if what is told is right.
func byRule(o api.Op) bool {
	bare := api.Op{Kind: o.Kind, Id: o.Id, T: o.T}
	ok := opName(o.Id) && within(1, o.T, topTime)
	switch o.Kind {
	case 1:
		bare.Parent, bare.Key = o.Parent, o.Key
		ok = ok && blockName(o.Parent) && aKey(o.Key)
	case 2:
		bare.Block, bare.Parent, bare.Key = o.Block, o.Parent, o.Key
		ok = ok && opName(o.Block) && blockName(o.Parent) && aKey(o.Key)
	case 3:
		bare.Seg, bare.Left, bare.Right, bare.Text = o.Seg, o.Left, o.Right, o.Text
		ok = ok && opName(o.Seg) && aChar(o.Left) && aChar(o.Right) && within(1, len(o.Text), topText)
	case 4:
		bare.Cuts = o.Cuts
		ok = ok && within(1, len(o.Cuts), topCuts)
		for _, c := range o.Cuts {
			ok = ok && aCut(c)
		}
	case 5:
		bare.Seg, bare.Left, bare.Right, bare.Parent, bare.Key = o.Seg, o.Left, o.Right, o.Parent, o.Key
		ok = ok && opName(o.Seg) && aChar(o.Left) && aChar(o.Right) && blockName(o.Parent) && aKey(o.Key)
	case 6:
		bare.Block, bare.Flag = o.Block, o.Flag
		ok = ok && opName(o.Block)
	default:
		return false
	}
	return ok && alike(bare, o)
}

// alike: are two ops the same, where a nil list and an empty one are?
func alike(a, b api.Op) bool {
	if len(a.Cuts) == 0 && len(b.Cuts) == 0 {
		a.Cuts, b.Cuts = nil, nil
	}
	return reflect.DeepEqual(a, b)
}

// tell: numbers, names, characters, texts and flags, as bytes.
func tell(list ...any) []byte {
	var out []byte
	for _, x := range list {
		switch v := x.(type) {
		case int:
			b, ok := num.Put(v)
			if !ok {
				panic("no number")
			}
			out = append(out, b...)
		case string:
			out = append(append(out, tell(len(v))...), v...)
		case api.Id:
			out = append(out, tell(v.R, v.N)...)
		case api.Char:
			out = append(out, tell(v.Op, v.I)...)
		case bool:
			out = append(out, map[bool]byte{true: 1}[v])
		case []api.Cut:
			out = append(out, tell(len(v))...)
			for _, c := range v {
				out = append(out, tell(c.Op, c.From, c.To)...)
			}
		}
	}
	return out
}

// bytesByRule: a right op's bytes.
func bytesByRule(o api.Op) []byte {
	head := tell(o.Kind, o.Id, o.T)
	switch o.Kind {
	case 1:
		return append(head, tell(o.Parent, o.Key)...)
	case 2:
		return append(head, tell(o.Block, o.Parent, o.Key)...)
	case 3:
		return append(head, tell(o.Seg, o.Left, o.Right, o.Text)...)
	case 4:
		return append(head, tell(o.Cuts)...)
	case 5:
		return append(head, tell(o.Seg, o.Left, o.Right, o.Parent, o.Key)...)
	}
	return append(head, tell(o.Block, o.Flag)...)
}

// needsByRule: the names, each once.
func needsByRule(o api.Op) []api.Id {
	all := []api.Id{o.Block, o.Parent, o.Seg, o.Left.Op, o.Right.Op}
	for _, c := range o.Cuts {
		all = append(all, c.Op)
	}
	var out []api.Id
	for _, x := range all {
		if x.N != 0 && !slices.Contains(out, x) {
			out = append(out, x)
		}
	}
	return out
}

// ---- P5.1 ----

// P5.1: the bytes of each kind, the chapter's example among them, and back.
func TestBytes(t *testing.T) {
	for _, c := range []struct {
		o    api.Op
		want string
	}{
		{api.Op{Kind: api.KFold, Id: id(1, 2), T: 3, Block: id(0, 1), Flag: true}, "\x06\x01\x02\x03\x00\x01\x01"},
		{api.Op{Kind: api.KFold, Id: id(1, 2), T: 3, Block: id(0, 1)}, "\x06\x01\x02\x03\x00\x01\x00"},
		{good()[1], "\x01\x01\x02\x03\x04\x05\x01k"},
		{good()[2], "\x02\x01\x02\x03\x04\x05\x06\x07\x01k"},
		{good()[3], "\x03\x01\x02\x03\x04\x05\x06\x07\x08\x09\x0a\x0b\x04text"},
		{good()[4], "\x04\x01\x02\x03\x02\x04\x05\x06\x07\x08\x09\x0a\x0b"},
		{good()[5], "\x05\x01\x02\x03\x04\x05\x06\x07\x08\x09\x0a\x0b\x0c\x0d\x01k"},
		{good()[6], "\x06\x01\x02\x03\x04\x05\x01"},
		{api.Op{Kind: api.KNew, Id: id(0, 1), T: 1, Key: "\x08"}, "\x01\x00\x01\x01\x00\x00\x01\x08"},
		{api.Op{Kind: api.KNew, Id: id(0, 1), T: 1, Parent: api.Trash, Key: "\x08"}, "\x01\x00\x01\x01\x01\x00\x01\x08"},
		{api.Op{Kind: api.KNew, Id: id(15, topNumber), T: topTime, Key: "\x00\xff"}, "\x01\x0f\xd0\x00\x00\xf9\x00\x00\x00\x00\x00\x00\x00\x02\x00\xff"},
		{api.Op{Kind: api.KInsert, Id: id(0, 1), T: 127, Seg: id(0, 1), Text: "\x00"}, "\x03\x00\x01\x7f\x00\x01\x00\x00\x00\x00\x00\x00\x01\x00"},
		{api.Op{Kind: api.KInsert, Id: id(0, 1), T: 128, Seg: id(0, 1), Right: char(15, 1, 63), Text: times("x", 64)}, "\x03\x00\x01\x80\x80\x00\x01\x00\x00\x00\x0f\x01\x3f\x40" + times("x", 64)},
		{api.Op{Kind: api.KDelete, Id: id(0, 1), T: 1, Cuts: cuts(16)}, "\x04\x00\x01\x01\x10" + times("\x00\x01\x00\x40", 16)},
	} {
		holdsRight(t, c.o, true)
		if b, _ := Encode(c.o); string(b) != c.want {
			t.Errorf("Encode of %+v: %q; asked: %q", c.o, b, c.want)
		}
		if o, ok := Decode([]byte(c.want)); !ok || !alike(o, c.o) || !Same(o, c.o) {
			t.Errorf("Decode of %q: %+v, %v", c.want, o, ok)
		}
	}
}

// P5.1: kinds below the first one and above the last one, whatever else is told.
func TestRightKind(t *testing.T) {
	for _, kind := range []int{math.MinInt, -1, 0, 7, 8, 256 + 1, 1<<32 + 1, math.MaxInt} {
		holdsRight(t, api.Op{Kind: kind, Id: id(1, 2), T: 3}, false)
		for _, o := range good() {
			o.Kind = kind
			holdsRight(t, o, false)
		}
	}
	for kind, o := range good() {
		holdsRight(t, o, true)
		for other := 1; other <= 6; other++ {
			o.Kind = other
			holdsRight(t, o, other == kind)
		}
	}
}

// P5.1: an op's own name and time, of each kind.
func TestRightHead(t *testing.T) {
	for _, o := range good() {
		for n, want := range map[int]bool{math.MinInt: false, -1: false, 0: false, 1: true, 2: true, topTime - 1: true, topTime: true, topTime + 1: false, math.MaxInt: false} {
			other := o
			other.T = n
			holdsRight(t, other, want)
		}
		for name, want := range names() {
			other := o
			other.Id = name
			holdsRight(t, other, want == anOp)
		}
	}
}

// What a name is: an op's, a block's that isn't an op's, or none of them.
const (
	none = iota
	alwaysThere
	anOp
)

func names() map[api.Id]int {
	return map[api.Id]int{
		id(0, 1): anOp, id(15, 1): anOp, id(3, topNumber): anOp, id(15, topNumber): anOp,
		api.Root: alwaysThere, api.Trash: alwaysThere,
		id(2, 0): none, id(15, 0): none, id(-1, 0): none, id(-1, 1): none, id(16, 1): none, id(16, 0): none,
		id(0, -1): none, id(1, -1): none, id(0, topNumber+1): none, id(math.MinInt, 1): none, id(math.MaxInt, 1): none,
		id(0, math.MinInt): none, id(0, math.MaxInt): none, id(1<<32, 1): none, id(0, 1<<32+1): none,
	}
}

// P5.1: Block and Seg are ops' names, Parent is a block's, in each kind that tells them.
func TestRightNames(t *testing.T) {
	for name, what := range names() {
		for _, kind := range []int{api.KMove, api.KFold} {
			o := good()[kind]
			o.Block = name
			holdsRight(t, o, what == anOp)
		}
		for _, kind := range []int{api.KInsert, api.KSplit} {
			o := good()[kind]
			o.Seg = name
			holdsRight(t, o, what == anOp)
		}
		for _, kind := range []int{api.KNew, api.KMove, api.KSplit} {
			o := good()[kind]
			o.Parent = name
			holdsRight(t, o, what != none)
		}
	}
}

// P5.1: characters that are noughts, and such whose number is at and beyond its bounds.
func TestRightChars(t *testing.T) {
	for c, want := range map[api.Char]bool{
		char(0, 0, 0): true, char(0, 0, 1): false, char(0, 0, -1): false, char(1, 0, 0): false, char(2, 0, 0): false,
		char(0, 1, 0): true, char(15, topNumber, 63): true, char(0, 1, 63): true, char(0, 1, 64): false, char(0, 1, -1): false,
		char(16, 1, 0): false, char(-1, 1, 0): false, char(0, topNumber+1, 0): false, char(0, -1, 0): false,
		char(0, 1, math.MinInt): false, char(0, 1, math.MaxInt): false,
	} {
		for _, kind := range []int{api.KInsert, api.KSplit} {
			o := good()[kind]
			o.Left = c
			holdsRight(t, o, want)
			o.Left, o.Right = api.Char{}, c
			holdsRight(t, o, want)
			o.Left = c
			holdsRight(t, o, want)
		}
	}
}

// P5.1: keys that are right, and such that aren't.
func TestRightKeys(t *testing.T) {
	for k, want := range map[string]bool{
		"": false, "\x00": false, "a\x00": false, "\x01": true, "\x00\x01": true, "\xff": true,
		times("k", 31): true, times("k", 32): true, times("k", 33): false, times("k", 31) + "\x00": false, times("\x00", 31) + "k": true,
	} {
		for _, kind := range []int{api.KNew, api.KMove, api.KSplit} {
			o := good()[kind]
			o.Key = k
			holdsRight(t, o, want)
		}
	}
}

// P5.1: texts of 0, 1, 64 and 65 bytes, of any bytes.
func TestRightTexts(t *testing.T) {
	for s, want := range map[string]bool{
		"": false, "x": true, "\x00": true, "\xff\x80": true, times("x", 63): true, times("x", 64): true, times("x", 65): false,
		times("ä", 32): true, times("ä", 33): false, times("x", 1<<16): false,
	} {
		o := good()[api.KInsert]
		o.Text = s
		holdsRight(t, o, want)
	}
}

// P5.1: so many cuts, and each cut's name, From and To; each of them must be right, wherever it stands.
func TestRightCuts(t *testing.T) {
	o := good()[api.KDelete]
	for n, want := range map[int]bool{0: false, 1: true, 2: true, 15: true, 16: true, 17: false, 1000: false} {
		o.Cuts = cuts(n)
		holdsRight(t, o, want)
	}
	for c, want := range map[api.Cut]bool{
		cut(0, 1, 0, 1): true, cut(0, 1, 0, 64): true, cut(0, 1, 63, 64): true, cut(15, topNumber, 5, 6): true,
		cut(0, 1, -1, 1): false, cut(0, 1, math.MinInt, 1): false, cut(0, 1, -2, -1): false, cut(0, 1, -1, 0): false,
		cut(0, 1, 0, 0): false, cut(0, 1, 5, 5): false, cut(0, 1, 64, 64): false, cut(0, 1, 6, 5): false, cut(0, 1, math.MaxInt, 1): false,
		cut(0, 1, 0, 65): false, cut(0, 1, 64, 65): false, cut(0, 1, 0, math.MaxInt): false, cut(0, 1, 0, math.MinInt): false,
		cut(0, 0, 0, 1): false, cut(1, 0, 0, 1): false, cut(16, 1, 0, 1): false, cut(-1, 1, 0, 1): false, cut(0, topNumber+1, 0, 1): false,
		cut(0, -1, 0, 1): false, {}: false,
	} {
		for _, n := range []int{1, 2, 16} {
			for at := range n {
				o.Cuts = cuts(n)
				o.Cuts[at] = c
				holdsRight(t, o, want)
			}
		}
	}
}

// P5.1: a field that isn't told of a kind, and isn't noughts.
func TestRightUntold(t *testing.T) {
	change := []func(o *api.Op){
		func(o *api.Op) { o.Block = id(0, 1) },
		func(o *api.Op) { o.Block = api.Trash },
		func(o *api.Op) { o.Block = id(0, -1) },
		func(o *api.Op) { o.Parent = id(0, 1) },
		func(o *api.Op) { o.Parent = api.Trash },
		func(o *api.Op) { o.Key = "k" },
		func(o *api.Op) { o.Key = "\x00" },
		func(o *api.Op) { o.Seg = id(0, 1) },
		func(o *api.Op) { o.Seg = api.Trash },
		func(o *api.Op) { o.Left = char(0, 1, 0) },
		func(o *api.Op) { o.Left = char(0, 0, 1) },
		func(o *api.Op) { o.Right = char(0, 1, 0) },
		func(o *api.Op) { o.Right = char(1, 0, 0) },
		func(o *api.Op) { o.Text = "x" },
		func(o *api.Op) { o.Cuts = cuts(1) },
		func(o *api.Op) { o.Cuts = []api.Cut{{}} },
		func(o *api.Op) { o.Flag = true },
	}
	untold := map[int][]int{
		api.KNew:    {0, 1, 2, 7, 8, 9, 10, 11, 12, 13, 14, 15, 16},
		api.KMove:   {7, 8, 9, 10, 11, 12, 13, 14, 15, 16},
		api.KInsert: {0, 1, 2, 3, 4, 5, 6, 14, 15, 16},
		api.KDelete: {0, 1, 2, 3, 4, 5, 6, 7, 8, 9, 10, 11, 12, 13, 16},
		api.KSplit:  {0, 1, 2, 13, 14, 15, 16},
		api.KFold:   {3, 4, 5, 6, 7, 8, 9, 10, 11, 12, 13, 14, 15},
	}
	for kind, list := range untold {
		for _, i := range list {
			o := good()[kind]
			change[i](&o)
			holdsRight(t, o, false)
		}
		// Neither a list that is empty nor one that is nil has anything in it.
		o := good()[kind]
		if kind != api.KDelete {
			o.Cuts = []api.Cut{}
			holdsRight(t, o, true)
			o.Cuts = cuts(3)[:0]
			holdsRight(t, o, true)
		}
	}
}

// P5.1: bytes too few, and too many.
func TestDecodeLength(t *testing.T) {
	holdsWrong(t, nil)
	holdsWrong(t, []byte{})
	for _, o := range good() {
		b, _ := Encode(o)
		for n := range b {
			holdsWrong(t, b[:n:n])
			holdsWrong(t, b[:n])
		}
		for _, more := range []string{"\x00", "\x01", "\xff", string(b), times("\x00", 1000)} {
			holdsWrong(t, slices.Concat(b, []byte(more)))
		}
	}
}

// P5.1: bytes of what isn't right, and bytes that are no numbers.
func TestDecodeWrong(t *testing.T) {
	for _, s := range []string{
		"\x00\x01\x02\x03", "\x00\x01\x02\x03\x04\x05\x01", "\x07\x01\x02\x03", "\x07\x01\x02\x03\x04\x05\x01", "\x80\x81\x01\x02\x03\x04\x05\x01", // kinds
		"\x06\x01\x02\x03\x04\x05\x02", "\x06\x01\x02\x03\x04\x05\x03", "\x06\x01\x02\x03\x04\x05\x80\x80", "\x06\x01\x02\x03\x04\x05\xff", // a Flag
		"\x06\x10\x02\x03\x04\x05\x01", "\x06\x01\x00\x03\x04\x05\x01", "\x06\x01\xd0\x00\x01\x03\x04\x05\x01", // its Id
		"\x06\x01\x02\x00\x04\x05\x01", "\x06\x01\x02\xf9\x00\x00\x00\x00\x00\x01\x04\x05\x01", // its T
		"\x06\x01\x02\x80\x03\x04\x05\x01", "\x06\x01\x02\x03\x04\x05\x80\x01", "\x06\x01\x02\x03\x04\xc0\x00\x05\x01", // more bytes than are needed
		"\x06\x01\x02\x03\x00\x00\x01", "\x06\x01\x02\x03\x01\x00\x01", "\x06\x01\x02\x03\x10\x01\x01", // Block
		"\x01\x01\x02\x03\x02\x00\x01k", "\x01\x01\x02\x03\x10\x01\x01k", // Parent
		"\x01\x01\x02\x03\x04\x05\x00", "\x01\x01\x02\x03\x04\x05\x01\x00", "\x01\x01\x02\x03\x04\x05\x02k\x00", "\x01\x01\x02\x03\x04\x05\x21" + times("k", 33), // Key
		"\x03\x01\x02\x03\x00\x00\x00\x00\x00\x00\x00\x00\x01x", "\x03\x01\x02\x03\x01\x00\x00\x00\x00\x00\x00\x00\x01x", // Seg
		"\x03\x01\x02\x03\x04\x05\x00\x00\x01\x00\x00\x00\x01x", "\x03\x01\x02\x03\x04\x05\x00\x00\x00\x00\x00\x01\x01x", // noughts with a number
		"\x03\x01\x02\x03\x04\x05\x01\x00\x00\x00\x00\x00\x01x", "\x03\x01\x02\x03\x04\x05\x00\x01\x40\x00\x00\x00\x01x", "\x03\x01\x02\x03\x04\x05\x00\x00\x00\x00\x01\x40\x01x",
		"\x03\x01\x02\x03\x04\x05\x00\x00\x00\x00\x00\x00\x00", "\x03\x01\x02\x03\x04\x05\x00\x00\x00\x00\x00\x00\x41" + times("x", 65), // Text
		"\x04\x01\x02\x03\x00", "\x04\x01\x02\x03\x11" + times("\x00\x01\x00\x40", 17), "\x04\x01\x02\x03\x02\x00\x01\x00\x40", "\x04\x01\x02\x03\x01" + times("\x00\x01\x00\x40", 2), // how many cuts
		"\x04\x01\x02\x03\xfd\xff\xff\xff\xff\xff\xff\x00\x01\x00\x40",
		"\x04\x01\x02\x03\x01\x00\x01\x05\x05", "\x04\x01\x02\x03\x01\x00\x01\x06\x05", "\x04\x01\x02\x03\x01\x00\x01\x00\x00", "\x04\x01\x02\x03\x01\x00\x01\x00\x41", "\x04\x01\x02\x03\x01\x00\x01\x40\x41", // a cut
		"\x04\x01\x02\x03\x01\x00\x00\x00\x01", "\x04\x01\x02\x03\x01\x01\x00\x00\x01", "\x04\x01\x02\x03\x01\x10\x01\x00\x01",
	} {
		holdsWrong(t, []byte(s))
	}
}

// P5.1: bytes tell a right op just if they are its bytes: each byte of each op made each other one.
func TestDecodeTurned(t *testing.T) {
	for _, o := range good() {
		b, _ := Encode(o)
		told := 0
		for i := range b {
			for x := range 256 {
				turned := bytes.Clone(b)
				turned[i] = byte(x)
				o, ok := Decode(turned)
				if !ok {
					holdsWrong(t, turned)
					continue
				}
				told++
				if !byRule(o) || !bytes.Equal(bytesByRule(o), turned) {
					t.Errorf("Decode of %v: %+v", turned, o)
				}
			}
		}
		if told < len(b) {
			t.Errorf("%d of %v are told", told, b)
		}
	}
}

// P5.1: are all fields the same?
func TestSame(t *testing.T) {
	full := func() api.Op {
		return api.Op{
			Kind: 9, Id: id(1, 2), T: 3, Block: id(4, 5), Parent: id(6, 7), Key: "key", Seg: id(8, 9),
			Left: char(10, 11, 12), Right: char(13, 14, 15), Text: "text", Cuts: []api.Cut{cut(16, 17, 18, 19), cut(20, 21, 22, 23)}, Flag: true,
		}
	}
	for i, change := range []func(o *api.Op){
		func(o *api.Op) { o.Kind++ },
		func(o *api.Op) { o.Id.R++ },
		func(o *api.Op) { o.Id.N++ },
		func(o *api.Op) { o.T++ },
		func(o *api.Op) { o.Block.R++ },
		func(o *api.Op) { o.Block.N++ },
		func(o *api.Op) { o.Parent.R++ },
		func(o *api.Op) { o.Parent.N++ },
		func(o *api.Op) { o.Key = "kez" },
		func(o *api.Op) { o.Key = "" },
		func(o *api.Op) { o.Seg.R++ },
		func(o *api.Op) { o.Seg.N++ },
		func(o *api.Op) { o.Left.Op.R++ },
		func(o *api.Op) { o.Left.Op.N++ },
		func(o *api.Op) { o.Left.I++ },
		func(o *api.Op) { o.Right.Op.R++ },
		func(o *api.Op) { o.Right.Op.N++ },
		func(o *api.Op) { o.Right.I++ },
		func(o *api.Op) { o.Text = "texts" },
		func(o *api.Op) { o.Text = "Text" },
		func(o *api.Op) { o.Cuts = nil },
		func(o *api.Op) { o.Cuts = o.Cuts[:1] },
		func(o *api.Op) { o.Cuts = append(o.Cuts, api.Cut{}) },
		func(o *api.Op) { slices.Reverse(o.Cuts) },
		func(o *api.Op) { o.Cuts[1].Op.R++ },
		func(o *api.Op) { o.Cuts[1].Op.N++ },
		func(o *api.Op) { o.Cuts[1].From++ },
		func(o *api.Op) { o.Cuts[1].To++ },
		func(o *api.Op) { o.Flag = false },
	} {
		a, b := full(), full()
		if !Same(a, b) || !Same(Clone(a), b) {
			t.Fatal("an op isn't the same as itself")
		}
		change(&b)
		if Same(a, b) || Same(b, a) || !Same(b, b) || !Same(Clone(b), b) {
			t.Errorf("change %d isn't told", i)
		}
	}
	if !Same(api.Op{}, api.Op{}) || !Same(api.Op{}, api.Op{Cuts: []api.Cut{}}) || !Same(api.Op{Cuts: cuts(3)[:0]}, api.Op{}) {
		t.Error("a list that is nil and one that is empty aren't the same")
	}
	if Same(api.Op{}, api.Op{Cuts: []api.Cut{{}}}) {
		t.Error("no cut, and one of noughts, are the same")
	}
}

// ---- P5.2 ----

// P5.2: the names of Block, Parent, Seg, Left, Right and each cut, in that order.
func TestNeeds(t *testing.T) {
	for kind, want := range map[int][]api.Id{
		api.KNew:    {id(4, 5)},
		api.KMove:   {id(4, 5), id(6, 7)},
		api.KInsert: {id(4, 5), id(6, 7), id(9, 10)},
		api.KDelete: {id(4, 5), id(8, 9)},
		api.KSplit:  {id(12, 13), id(4, 5), id(6, 7), id(9, 10)},
		api.KFold:   {id(4, 5)},
	} {
		if got := Needs(good()[kind]); !slices.Equal(got, want) {
			t.Errorf("Needs of the kind %d: %v; asked: %v", kind, got, want)
		}
	}
	for i, c := range []struct {
		o    api.Op
		want []api.Id
	}{
		{api.Op{}, nil},
		{api.Op{Kind: 1, Id: id(1, 2), T: 3, Key: "k"}, nil},
		{api.Op{Parent: api.Trash, Block: api.Trash, Seg: id(5, 0), Left: char(-1, 0, 3), Right: char(9, 0, 1), Cuts: []api.Cut{cut(1, 0, 2, 3), {}}}, nil},
		// All of any op, in order, whatever its kind tells.
		{api.Op{Kind: 99, Block: id(9, 1), Parent: id(8, 1), Seg: id(7, 1), Left: char(6, 1, 9), Right: char(5, 1, 9), Cuts: []api.Cut{cut(4, 1, 0, 1), cut(3, 1, 0, 1)}},
			[]api.Id{id(9, 1), id(8, 1), id(7, 1), id(6, 1), id(5, 1), id(4, 1), id(3, 1)}},
		// Each once, where it stands first.
		{api.Op{Block: id(1, 1), Parent: id(2, 2), Seg: id(1, 1), Left: char(3, 3, 0), Right: char(3, 3, 1), Cuts: []api.Cut{cut(2, 2, 0, 1), cut(4, 4, 0, 1), cut(4, 4, 2, 3), cut(1, 1, 0, 1)}},
			[]api.Id{id(1, 1), id(2, 2), id(3, 3), id(4, 4)}},
		// Such that no op could have.
		{api.Op{Block: id(16, 1), Parent: id(0, -1), Seg: id(-1, 1), Left: char(0, topNumber+1, -7), Right: char(math.MinInt, math.MaxInt, 0), Cuts: []api.Cut{cut(1, -1, 0, 0), cut(0, -1, 9, 9)}},
			[]api.Id{id(16, 1), id(0, -1), id(-1, 1), id(0, topNumber+1), id(math.MinInt, math.MaxInt), id(1, -1)}},
		// Names that have a part in common are others.
		{api.Op{Block: id(1, 2), Parent: id(2, 1), Seg: id(1, 1), Left: char(2, 2, 0)}, []api.Id{id(1, 2), id(2, 1), id(1, 1), id(2, 2)}},
		// A name that is its own stands in these fields like any other one.
		{api.Op{Kind: 6, Id: id(1, 2), T: 3, Block: id(1, 2)}, []api.Id{id(1, 2)}},
	} {
		if got := Needs(c.o); !slices.Equal(got, c.want) {
			t.Errorf("%d: Needs of %+v: %v; asked: %v", i, c.o, got, c.want)
		}
	}
}

// P5.2: names of very many cuts are told, each once, in order.
func TestNeedsMany(t *testing.T) {
	const many = 1 << 18
	o := api.Op{}
	for i := range many {
		o.Cuts = append(o.Cuts, cut(i, many-i, 0, 1), cut(i/2, many-i/2, 5, 6))
	}
	got := Needs(o)
	if len(got) != many {
		t.Fatalf("%d names", len(got))
	}
	for i, x := range got {
		if x != id(i, many-i) {
			t.Fatalf("name %d is %v", i, x)
		}
	}
}

// P5.2: how many characters an op makes, whatever else it tells.
func TestSize(t *testing.T) {
	for kind, want := range map[int]int{
		math.MinInt: 0, -1: 0, 0: 0, api.KNew: 0, api.KMove: 0, api.KInsert: 4, api.KDelete: 0, api.KSplit: 1, api.KFold: 0, 7: 0, math.MaxInt: 0,
	} {
		if got := Size(api.Op{Kind: kind, Text: "text", Cuts: cuts(3), Key: "k"}); got != want {
			t.Errorf("Size of the kind %d: %d", kind, got)
		}
	}
	for _, n := range []int{0, 1, 2, 64, 65, 1 << 16} {
		if got := Size(api.Op{Kind: api.KInsert, Text: times("x", n)}); got != n {
			t.Errorf("Size of %d bytes: %d", n, got)
		}
		if got := Size(api.Op{Kind: api.KSplit, Text: times("x", n)}); got != 1 {
			t.Errorf("Size of a split with %d bytes: %d", n, got)
		}
	}
	if got := Size(api.Op{Kind: api.KInsert, Text: "ä"}); got != 2 {
		t.Errorf("Size of two bytes: %d", got)
	}
}

// ---- P5.3 ----

// P5.3: how many ops, then each one's bytes as a text; and back.
func TestAll(t *testing.T) {
	g := good()
	for _, c := range []struct {
		list []api.Op
		want string
	}{
		{nil, "\x00"},
		{[]api.Op{}, "\x00"},
		{[]api.Op{g[6]}, "\x01\x07\x06\x01\x02\x03\x04\x05\x01"},
		{[]api.Op{g[6], g[6]}, "\x02" + times("\x07\x06\x01\x02\x03\x04\x05\x01", 2)},
		{[]api.Op{g[4], g[1]}, "\x02\x0d\x04\x01\x02\x03\x02\x04\x05\x06\x07\x08\x09\x0a\x0b\x08\x01\x01\x02\x03\x04\x05\x01k"},
		{slices.Repeat([]api.Op{g[6]}, 128), "\x80\x80" + times("\x07\x06\x01\x02\x03\x04\x05\x01", 128)},
	} {
		if b, ok := EncodeAll(c.list); !ok || string(b) != c.want {
			t.Errorf("EncodeAll of %+v: %q, %v; asked: %q", c.list, b, ok, c.want)
		}
		if l, ok := DecodeAll([]byte(c.want)); !ok || !slices.EqualFunc(l, c.list, alike) {
			t.Errorf("DecodeAll of %q: %+v, %v", c.want, l, ok)
		}
	}
}

// P5.3: a list with one op that isn't right, wherever it stands.
func TestEncodeAllWrong(t *testing.T) {
	for n := 1; n < 5; n++ {
		for at := range n {
			list := slices.Repeat([]api.Op{good()[api.KInsert]}, n)
			list[at].Text = ""
			if b, ok := EncodeAll(list); ok || len(b) != 0 {
				t.Errorf("%d of %d isn't right: %q, %v", at, n, b, ok)
			}
		}
	}
}

// P5.3: bytes too few and too many, a count that is above or below what is there, texts that are no op's bytes.
func TestDecodeAllWrong(t *testing.T) {
	const fold = "\x07\x06\x01\x02\x03\x04\x05\x01"
	list := []string{
		"", "\x80\x00", "\xff", "\x00\x00", "\x00" + fold, // the count, or what is behind no op
		"\x01", "\x02" + fold, "\x03" + fold + fold, "\x01" + fold + fold, "\x02" + fold + fold + "\x00", "\x01" + fold + "\x00",
		"\x01\x00", "\x01\x01", "\x01\x01\x00", "\x02\x00" + fold, "\x02" + fold + "\x00",
		"\x01\x06\x06\x01\x02\x03\x04\x05\x01", "\x01\x08\x06\x01\x02\x03\x04\x05\x01", "\x01\x06\x06\x01\x02\x03\x04\x05", "\x01\x08\x06\x01\x02\x03\x04\x05\x01\x00",
		"\x01\x07\x06\x01\x02\x03\x04\x05\x02", "\x01\x07\x06\x01\x02\x00\x04\x05\x01", "\x01\x80\x07\x06\x01\x02\x03\x04\x05\x01",
		"\x02" + fold + "\x07\x06\x01\x02\x03\x04\x05\x02", "\x02\x07\x00\x01\x02\x03\x04\x05\x01" + fold,
		"\x02\x0e\x06\x01\x02\x03\x04\x05\x01\x06\x01\x02\x03\x04\x05\x01",
		string(tell(topList)) + fold, string(tell(topList + 1)), string(tell(topList+1)) + fold, string(tell(1<<49-1)) + fold,
		"\x01" + string(tell(1<<49-1)) + "\x06\x01\x02\x03\x04\x05\x01",
	}
	whole, _ := EncodeAll([]api.Op{good()[1], good()[2], good()[3], good()[4], good()[5], good()[6]})
	for n := range whole {
		list = append(list, string(whole[:n]))
	}
	for _, s := range list {
		if l, ok := DecodeAll([]byte(s)); ok || len(l) != 0 {
			t.Errorf("DecodeAll of %q: %+v, %v", s, l, ok)
		}
	}
}

// P5.3: 2^20 ops are told; one more has bytes, but isn't told.
func TestAllMost(t *testing.T) {
	list := slices.Repeat([]api.Op{good()[api.KFold]}, topList+1)
	list[topList-1].Id = id(15, 99)
	list[topList].Id = id(15, 100)
	b, ok := EncodeAll(list[:topList])
	if !ok || len(b) != 3+8*topList {
		t.Fatal("2^20 ops have no bytes", len(b), ok)
	}
	l, ok := DecodeAll(b)
	if !ok || len(l) != topList || !slices.EqualFunc(l, list[:topList], Same) {
		t.Error("2^20 ops aren't told", len(l), ok)
	}
	b, ok = EncodeAll(list)
	if !ok || len(b) != 3+8*(topList+1) {
		t.Fatal("2^20 + 1 ops have no bytes", len(b), ok)
	}
	if l, ok := DecodeAll(b); ok || len(l) != 0 {
		t.Error("2^20 + 1 ops are told", len(l), ok)
	}
}

// ---- P5.4 ----

// P5.4: a clone is the same, and shares nothing, behind its length neither.
func TestCloneMemory(t *testing.T) {
	for _, n := range []int{0, 1, 2, 5, 17} {
		room := cuts(n + 4)
		before := slices.Clone(room)
		key, text := []byte("key"), []byte("some text")
		o := api.Op{Kind: -3, Key: unsafe.String(&key[0], 3), Text: unsafe.String(&text[0], 9), Cuts: room[:n], Flag: true, Seg: id(-1, 4)}
		c := Clone(o)
		if !alike(c, o) {
			t.Fatalf("a clone of %+v is %+v", o, c)
		}
		wide := c.Cuts[:cap(c.Cuts)]
		for i := range wide {
			wide[i] = cut(7, 7, 7, 7)
		}
		if !slices.Equal(room, before) {
			t.Fatal("a clone shares its cuts")
		}
		c = Clone(o)
		_ = append(c.Cuts, cut(8, 8, 8, 8))
		for i := range room {
			room[i] = api.Cut{}
		}
		clear(key)
		clear(text)
		if c.Key != "key" || c.Text != "some text" || !slices.Equal(c.Cuts, before[:n]) {
			t.Errorf("a clone sees changes: %+v", c)
		}
	}
}

// P5.4: what is handed in to any call stays, and what lies behind its length.
func TestHandedInStays(t *testing.T) {
	for _, o := range good() {
		room := append(slices.Clone(o.Cuts), cut(1, 1, 1, 1), cut(2, 2, 2, 2))
		before := slices.Clone(room)
		o.Cuts = room[:len(o.Cuts)]
		Right(o)
		Encode(o)
		Needs(o)
		Size(o)
		Same(o, o)
		Clone(o)
		list := []api.Op{o, o, {Kind: 77}}
		EncodeAll(list[:2])
		EncodeAll(list)
		if !slices.Equal(room, before) || !Same(list[0], o) || !Same(list[1], o) || !Same(list[2], api.Op{Kind: 77}) {
			t.Errorf("changed: %+v, %v", o, room)
		}
		one, _ := Encode(o)
		all, _ := EncodeAll([]api.Op{o, o})
		for _, b := range [][]byte{one, all} {
			room := append(bytes.Clone(b), "behind"...)
			kept := bytes.Clone(room)
			Decode(room[:len(b)])
			DecodeAll(room[:len(b)])
			if !bytes.Equal(room, kept) {
				t.Errorf("changed: %v", room)
			}
		}
	}
}

// P5.4: an op sees no later changes of its bytes, and bytes none of their op; each answer is memory of its own.
func TestAnswersApart(t *testing.T) {
	for _, o := range good() {
		one, _ := Encode(o)
		two, _ := Encode(o)
		want := bytes.Clone(one)
		clear(one[:cap(one)])
		if !bytes.Equal(two, want) {
			t.Errorf("two encodings share memory: %v", two)
		}
		got, ok := Decode(two)
		clear(two)
		if !ok || !Same(got, o) {
			t.Errorf("an op sees changes of its bytes: %+v", got)
		}
		all, _ := EncodeAll([]api.Op{o, o})
		list, ok := DecodeAll(all)
		clear(all)
		if !ok || len(list) != 2 || !Same(list[0], o) || !Same(list[1], o) {
			t.Fatalf("ops see changes of their bytes: %+v", list)
		}
		wide := list[0].Cuts[:cap(list[0].Cuts)]
		for i := range wide {
			wide[i] = cut(9, 9, 9, 9)
		}
		if !Same(list[1], o) || !Same(got, o) {
			t.Errorf("two ops share their cuts: %+v", list[1])
		}
		names, again := Needs(o), Needs(o)
		clear(names[:cap(names)])
		if !slices.Equal(again, needsByRule(o)) {
			t.Errorf("Needs shares memory: %v", again)
		}
	}
}

// ---- P1 ----

// source: numbers that are the same at each run.
func source(seed uint64) func(below int) int {
	return func(below int) int {
		seed = seed*6364136223846793005 + 1442695040888963407
		return int(seed>>33) % below
	}
}

// someOp: an op of which mostly what its kind tells is there, and mostly right.
func someOp(next func(int) int) api.Op {
	wild := []int{math.MinInt, -1, 0, 1, 2, 15, 16, 32, 63, 64, 65, topNumber, topNumber + 1, topTime, topTime + 1, 1 << 49, math.MaxInt}
	number := func(most int) int {
		if next(60) == 0 {
			return wild[next(len(wild))]
		}
		return next(most + 1)
	}
	name := func() api.Id { return id(number(topReplica), 1+number(8)) }
	aChar := func() api.Char {
		if next(3) == 0 {
			return api.Char{}
		}
		return api.Char{Op: name(), I: number(topLetter)}
	}
	text := func(most int) string {
		return times(string([]byte{byte(next(256))}), next(most)+1)
	}
	o := api.Op{Kind: 1 + number(5), Id: name(), T: 1 + number(1<<30)}
	told := map[int]string{1: "pk", 2: "bpk", 3: "slrt", 4: "c", 5: "slrpk", 6: "bf"}[o.Kind]
	has := func(f string) bool { return strings.Contains(told, f) != (next(80) == 0) }
	if has("b") {
		o.Block = name()
	}
	if has("p") {
		o.Parent = []api.Id{name(), name(), api.Root, api.Trash}[next(4)]
	}
	if has("k") {
		o.Key = text(topKey)
	}
	if has("s") {
		o.Seg = name()
	}
	if has("l") {
		o.Left = aChar()
	}
	if has("r") {
		o.Right = aChar()
	}
	if has("t") {
		o.Text = text(topText + next(2))
	}
	if has("c") {
		for range 1 + next(topCuts+next(2)) {
			from := number(topLetter)
			o.Cuts = append(o.Cuts, api.Cut{Op: name(), From: from, To: from + 1 + number(max(0, min(topText, topText-1-from)))})
		}
	}
	o.Flag = has("f") && next(2) == 0
	return o
}

// P5.1 to P5.3, P1: many ops, right and wrong ones, held against the chapter's rules.
func TestManyOps(t *testing.T) {
	next := source(5)
	count := map[bool]int{}
	var list []api.Op
	for range 60000 {
		o := someOp(next)
		want := byRule(o)
		count[want]++
		b, ok := Encode(o)
		if Right(o) != want || ok != want || !want && len(b) != 0 || want && !bytes.Equal(b, bytesByRule(o)) {
			t.Fatalf("%+v: %v, %v; asked: %v", o, b, ok, want)
		}
		if !slices.Equal(Needs(o), needsByRule(o)) || !alike(Clone(o), o) {
			t.Fatalf("%+v: %v", o, Needs(o))
		}
		if !want {
			continue
		}
		if back, ok := Decode(b); !ok || !alike(back, o) {
			t.Fatalf("%v: %+v, %v", b, back, ok)
		}
		list = append(list, o)
		if len(list) < 100 && next(20) > 0 {
			continue
		}
		all, _ := EncodeAll(list)
		if back, ok := DecodeAll(all); !ok || !slices.EqualFunc(back, list, alike) {
			t.Fatalf("a list of %d ops: %v", len(list), ok)
		}
		list = nil
	}
	if count[true] < 10000 || count[false] < 5000 {
		t.Errorf("right and wrong ones: %v", count)
	}
}

// P1, P5.1, P5.3: any bytes: what is told of them has just these bytes.
func TestAnyBytes(t *testing.T) {
	next := source(55)
	told := 0
	for range 200000 {
		b := make([]byte, next(24))
		for i := range b {
			b[i] = byte(next(256)) >> (next(4) * 2)
		}
		if next(2) == 0 && len(b) > 6 {
			copy(b, []byte{byte(next(8)), byte(next(17)), 1, 2})
		}
		o, ok := Decode(b)
		if ok != byRule(o) || ok && !bytes.Equal(bytesByRule(o), b) || !ok && !alike(o, api.Op{}) {
			t.Fatalf("Decode of %v: %+v, %v", b, o, ok)
		}
		if ok {
			told++
		}
		list, ok := DecodeAll(b)
		if again, _ := EncodeAll(list); ok && !bytes.Equal(again, b) || !ok && len(list) != 0 {
			t.Fatalf("DecodeAll of %v: %+v, %v", b, list, ok)
		}
	}
	if told < 100 {
		t.Errorf("%d are told", told)
	}
}

// P1: very long texts, keys, lists and bytes.
func TestHuge(t *testing.T) {
	long := times("x", 1<<22)
	for _, o := range []api.Op{
		{Kind: api.KInsert, Id: id(0, 1), T: 1, Seg: id(0, 1), Text: long},
		{Kind: api.KNew, Id: id(0, 1), T: 1, Key: long},
		{Kind: api.KDelete, Id: id(0, 1), T: 1, Cuts: cuts(1 << 18)},
		{Kind: api.KInsert, Id: id(0, 1), T: 1, Seg: id(0, 1), Text: "x", Cuts: cuts(1 << 18)},
	} {
		holdsRight(t, o, false)
		if !Same(Clone(o), o) || !slices.Equal(Needs(o), needsByRule(o)) {
			t.Errorf("the kind %d: %v", o.Kind, Needs(o))
		}
	}
	for _, b := range [][]byte{[]byte(long), make([]byte, 1<<22), bytes.Repeat([]byte{255}, 1<<22), bytes.Repeat([]byte{1}, 1<<22)} {
		holdsWrong(t, b)
		if l, ok := DecodeAll(b); ok || len(l) != 0 {
			t.Error("DecodeAll of very many bytes", len(l), ok)
		}
	}
}
