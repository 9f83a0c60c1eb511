// Package nums: numbers as few bytes (chapter 1).
package nums

import (
	"bytes"

	"entrepot/api"
)

// A number of 64 bits has at most so many bytes of seven bits.
const most = 10

// PutU: the bytes of a number.
func PutU(n uint64) []byte {
	b := make([]byte, 0, most)
	for n >= 128 {
		b = append(b, byte(n)|128)
		n >>= 7
	}
	return append(b, byte(n))
}

// U: the number that stands at a place, and how many bytes it has.
func U(b []byte, at int) (uint64, int, api.Errno) {
	if at < 0 || at >= len(b) {
		return 0, 0, api.ErrShort
	}
	var n uint64
	for i, x := range b[at:] {
		// The tenth byte has room for one bit only, so the loop ends here at the latest.
		if i == most-1 && x > 1 {
			return 0, 0, api.ErrForm
		}
		n |= uint64(x&127) << (7 * i)
		if x >= 128 {
			continue
		}
		if x == 0 && i > 0 {
			return 0, 0, api.ErrForm
		}
		return n, i + 1, api.OK
	}
	return 0, 0, api.ErrShort
}

// Zig: a signed number as an unsigned one.
func Zig(n int64) uint64 { return uint64(n)<<1 ^ uint64(n>>63) }

// Zag: and back.
func Zag(u uint64) int64 { return int64(u>>1) ^ -int64(u&1) }

// PutI: the bytes of a signed number.
func PutI(n int64) []byte { return PutU(Zig(n)) }

// I: the signed number that stands at a place.
func I(b []byte, at int) (int64, int, api.Errno) {
	u, n, e := U(b, at)
	return Zag(u), n, e
}

// Cursor reads one thing behind the other.
type Cursor struct {
	b   []byte
	at  int
	err api.Errno
}

// New: a cursor at the beginning of these bytes.
func New(b []byte) *Cursor { return &Cursor{b: bytes.Clone(b)} }

// U: an unsigned number.
func (c *Cursor) U() uint64 {
	if !c.reads() {
		return 0
	}
	u, n, e := U(c.b, c.at)
	if e != api.OK {
		c.err = e
		return 0
	}
	c.at += n
	return u
}

// I: a signed one.
func (c *Cursor) I() int64 { return Zag(c.U()) }

// Num: an unsigned one that is at most this.
func (c *Cursor) Num(most int) int { return c.number(most, api.ErrRange) }

// Bytes: so many bytes.
func (c *Cursor) Bytes(n int) []byte {
	if !c.reads() {
		return nil
	}
	if n < 0 || n > len(c.b)-c.at {
		c.err = api.ErrShort
		return nil
	}
	c.at += n
	return bytes.Clone(c.b[c.at-n : c.at])
}

// Text: a length, and so many bytes.
func (c *Cursor) Text(most int) string {
	if !c.reads() {
		return ""
	}
	begin := c.at
	b := c.Bytes(c.number(most, api.ErrLong))
	if c.err != api.OK {
		// The text begins at its length, not behind it.
		c.at = begin
	}
	return string(b)
}

// At: the place.
func (c *Cursor) At() int {
	if c == nil {
		return 0
	}
	return c.at
}

// End: the first error, or that there is more.
func (c *Cursor) End() api.Errno {
	switch {
	case c == nil:
		return api.ErrArg
	case c.err != api.OK:
		return c.err
	case c.at < len(c.b):
		return api.ErrLong
	}
	return api.OK
}

// reads tells whether the cursor still reads: it met no error yet.
func (c *Cursor) reads() bool { return c != nil && c.err == api.OK }

// number reads an unsigned number; above most it is the error, and the place stays.
func (c *Cursor) number(most int, above api.Errno) int {
	if !c.reads() {
		return 0
	}
	begin := c.at
	u := c.U()
	if c.err == api.OK && (most < 0 || u > uint64(most)) {
		c.at, c.err = begin, above
		return 0
	}
	return int(u)
}
