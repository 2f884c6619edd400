// Package num is layer 1: see shared/doc/01-num.md.
package num

import (
	"bytes"
	"math/bits"
)

// mostBytes is how many bytes the greatest right number takes.
const mostBytes = 7

// bound: with so many bytes the numbers below it can be told.
func bound(count int) int { return 1 << (7 * count) }

// size: how many bytes a right number takes.
func size(n int) int {
	count := 1
	for count < mostBytes && n >= bound(count) {
		count++
	}
	return count
}

// Put: a number's bytes.
func Put(n int) ([]byte, bool) {
	if n < 0 || n >= bound(mostBytes) {
		return nil, false
	}
	count := size(n)
	out := make([]byte, count)
	for i := count - 1; i >= 0; i-- {
		out[i] = byte(n)
		n >>= 8
	}
	out[0] |= ^(byte(0xff) >> (count - 1))
	return out, true
}

// PutText: a text's bytes.
func PutText(s string) []byte {
	// A text's length is always a right number: no text has 2^49 bytes.
	out, _ := Put(len(s))
	return append(out, s...)
}

// Cursor stands at a place of bytes.
type Cursor struct {
	ahead []byte // its own; nothing, when it is lost
	lost  bool
}

// At: a cursor at the beginning.
func At(b []byte) *Cursor { return &Cursor{ahead: bytes.Clone(b)} }

// lose lets go of what is ahead, so that nothing can be taken any more.
func (c *Cursor) lose() {
	c.ahead = nil
	c.lost = true
}

// first: the number that bytes begin with, and how many of them it takes.
func first(b []byte) (n, count int, ok bool) {
	if len(b) == 0 {
		return 0, 0, false
	}
	count = bits.LeadingZeros8(^b[0]) + 1
	if count > mostBytes || count > len(b) {
		return 0, 0, false
	}
	n = int(b[0] & (byte(0xff) >> count))
	for _, next := range b[1:count] {
		n = n<<8 | int(next)
	}
	if size(n) != count {
		return 0, 0, false
	}
	return n, count, true
}

// Num: the next number.
func (c *Cursor) Num(most int) int {
	n, count, ok := first(c.ahead)
	if !ok || n > most {
		c.lose()
		return 0
	}
	c.ahead = c.ahead[count:]
	return n
}

// Text: the next text.
func (c *Cursor) Text(most int) string {
	// Where the number is none, Num answers 0, and a lost cursor has nothing to take.
	return string(c.take(c.Num(most)))
}

// Bytes: so many next bytes.
func (c *Cursor) Bytes(n int) []byte { return bytes.Clone(c.take(n)) }

// take: so many next bytes, in the cursor's own memory.
func (c *Cursor) take(n int) []byte {
	if n < 0 || n > len(c.ahead) {
		c.lose()
		return nil
	}
	taken := c.ahead[:n]
	c.ahead = c.ahead[n:]
	return taken
}

// Left: how many bytes are ahead.
func (c *Cursor) Left() int { return len(c.ahead) }

// Lost: is it lost?
func (c *Cursor) Lost() bool { return c.lost }

// End: is nothing left?
func (c *Cursor) End() bool { return !c.lost && len(c.ahead) == 0 }
