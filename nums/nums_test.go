package nums_test

import (
	"bytes"
	"math"
	"math/rand"
	"testing"

	"entrepot/api"
	"entrepot/nums"
)

// numbers are those around each edge of a number's bytes, and some between.
func numbers() []uint64 {
	l := []uint64{0, 1, 2, 3, 300, math.MaxUint64, math.MaxUint64 - 1, math.MaxInt64, 1 << 63}
	for i := range 64 {
		l = append(l, 1<<i-1, 1<<i, 1<<i+1)
	}
	r := rand.New(rand.NewSource(1))
	for range 2000 {
		l = append(l, r.Uint64()>>r.Intn(64))
	}
	return l
}

// spelled makes a number's bytes by division, apart from the program.
func spelled(n uint64) []byte {
	var b []byte
	for {
		low := n % 128
		n /= 128
		if n == 0 {
			return append(b, byte(low))
		}
		b = append(b, byte(low+128))
	}
}

func TestP1_1Numbers(t *testing.T) {
	for _, n := range numbers() {
		if !bytes.Equal(nums.PutU(n), spelled(n)) {
			t.Fatalf("PutU(%d): % x", n, nums.PutU(n))
		}
		if !bytes.Equal(nums.PutI(nums.Zag(n)), spelled(n)) {
			t.Fatalf("PutI(%d)", nums.Zag(n))
		}
	}
	if !bytes.Equal(nums.PutU(300), []byte{0xac, 2}) {
		t.Error("300")
	}
	full := append(bytes.Repeat([]byte{0xff}, 9), 1)
	if !bytes.Equal(nums.PutU(math.MaxUint64), full) {
		t.Error("2^64 - 1")
	}
	if n, size, e := nums.U(full, 0); n != math.MaxUint64 || size != 10 || e != api.OK {
		t.Error("2^64 - 1, read", n, size, e)
	}
}

func TestP1_1ZigZag(t *testing.T) {
	for u, n := range []int64{0, -1, 1, -2, 2, -3, 3} {
		if nums.Zig(n) != uint64(u) || nums.Zag(uint64(u)) != n {
			t.Error(n, nums.Zig(n), nums.Zag(uint64(u)))
		}
	}
	if nums.Zig(math.MinInt64) != math.MaxUint64 || nums.Zig(math.MaxInt64) != math.MaxUint64-1 {
		t.Error("the ends", nums.Zig(math.MinInt64), nums.Zig(math.MaxInt64))
	}
	for _, u := range numbers() {
		if nums.Zig(nums.Zag(u)) != u {
			t.Fatal(u)
		}
	}
}

func TestP1_1Errors(t *testing.T) {
	nines := bytes.Repeat([]byte{0xff}, 9)
	with := func(b []byte, more ...byte) []byte { return append(bytes.Clone(b), more...) }
	for _, x := range []struct {
		b  []byte
		at int
		e  api.Errno
	}{
		{nil, 0, api.ErrShort},
		{[]byte{1}, -1, api.ErrShort},
		{[]byte{1}, math.MinInt, api.ErrShort},
		{[]byte{1}, 1, api.ErrShort},
		{[]byte{1}, math.MaxInt, api.ErrShort},
		{[]byte{0xac}, 0, api.ErrShort},
		{nines, 0, api.ErrShort},
		{nines[:8], 0, api.ErrShort},
		{[]byte{0x80, 0}, 0, api.ErrForm},
		{[]byte{0xff, 0x80, 0}, 0, api.ErrForm},
		{with(nines, 0), 0, api.ErrForm},
		{with(nines, 2), 0, api.ErrForm},
		{with(nines, 0x7f), 0, api.ErrForm},
		{with(nines, 0x80), 0, api.ErrForm},
		{with(nines, 0xff, 0xff, 1), 0, api.ErrForm},
		{with(nines, 0x81, 0), 0, api.ErrForm},
		{[]byte{0}, 0, api.OK},
		{with(nines, 1, 0), 0, api.OK},
	} {
		n, size, e := nums.U(x.b, x.at)
		i, isize, ie := nums.I(x.b, x.at)
		if e != x.e || ie != x.e {
			t.Errorf("% x at %d: %d, %d, not %d", x.b, x.at, e, ie, x.e)
		}
		if e != api.OK && (n != 0 || size != 0 || i != 0 || isize != 0) {
			t.Errorf("% x at %d: more beside an error", x.b, x.at)
		}
	}
	if n, size, e := nums.U([]byte{9, 9, 0xac, 2, 0x80}, 2); n != 300 || size != 2 || e != api.OK {
		t.Error("at a place", n, size, e)
	}
	if n, size, e := nums.I([]byte{9, 0x80, 1}, 1); n != 64 || size != 2 || e != api.OK {
		t.Error("a signed one at a place", n, size, e)
	}
}

func TestP1_2Cursor(t *testing.T) {
	var b []byte
	b = append(b, nums.PutU(1<<40)...)
	b = append(b, nums.PutI(-7)...)
	b = append(b, nums.PutU(5)...)
	b = append(b, "xyz"...)
	b = append(b, 3, 'a', 'b', 'c')
	b = append(b, 0)
	c := nums.New(b)
	if c.At() != 0 || c.End() != api.ErrLong {
		t.Error("in the beginning", c.At(), c.End())
	}
	if u := c.U(); u != 1<<40 || c.At() != 6 {
		t.Error("U", u, c.At())
	}
	if n := c.I(); n != -7 || c.At() != 7 {
		t.Error("I", n, c.At())
	}
	if n := c.Num(5); n != 5 || c.At() != 8 {
		t.Error("Num", n, c.At())
	}
	if x := c.Bytes(0); len(x) != 0 || c.At() != 8 {
		t.Error("no bytes", x, c.At())
	}
	if x := c.Bytes(3); string(x) != "xyz" || c.At() != 11 {
		t.Error("Bytes", x, c.At())
	}
	if s := c.Text(3); s != "abc" || c.At() != 15 {
		t.Error("Text", s, c.At())
	}
	if c.End() != api.ErrLong {
		t.Error("one is left", c.End())
	}
	if s := c.Text(0); s != "" || c.At() != 16 || c.End() != api.OK {
		t.Error("an empty text", s, c.At(), c.End())
	}
	if len(c.Bytes(0)) != 0 || c.End() != api.OK {
		t.Error("no bytes at the end")
	}
	if c.U() != 0 || c.End() != api.ErrShort || c.At() != 16 {
		t.Error("beyond the end", c.End(), c.At())
	}
}

func TestP1_2FirstError(t *testing.T) {
	for _, x := range []struct {
		name string
		b    []byte
		do   func(*nums.Cursor) bool
		e    api.Errno
	}{
		{"U short", []byte{128}, func(c *nums.Cursor) bool { return c.U() == 0 }, api.ErrShort},
		{"U form", []byte{128, 0}, func(c *nums.Cursor) bool { return c.U() == 0 }, api.ErrForm},
		{"I short", []byte{129}, func(c *nums.Cursor) bool { return c.I() == 0 }, api.ErrShort},
		{"I form", []byte{129, 0}, func(c *nums.Cursor) bool { return c.I() == 0 }, api.ErrForm},
		{"Num above", []byte{7}, func(c *nums.Cursor) bool { return c.Num(6) == 0 }, api.ErrRange},
		{"Num below 0", []byte{0}, func(c *nums.Cursor) bool { return c.Num(-1) == 0 }, api.ErrRange},
		{"Num least", []byte{0}, func(c *nums.Cursor) bool { return c.Num(math.MinInt) == 0 }, api.ErrRange},
		{"Num great", nums.PutU(math.MaxUint64), func(c *nums.Cursor) bool { return c.Num(math.MaxInt) == 0 }, api.ErrRange},
		{"Num's form", []byte{128, 0}, func(c *nums.Cursor) bool { return c.Num(-1) == 0 }, api.ErrForm},
		{"Bytes", []byte{1, 2}, func(c *nums.Cursor) bool { return len(c.Bytes(3)) == 0 }, api.ErrShort},
		{"Bytes below 0", []byte{1, 2}, func(c *nums.Cursor) bool { return len(c.Bytes(-1)) == 0 }, api.ErrShort},
		{"Bytes most", []byte{1, 2}, func(c *nums.Cursor) bool { return len(c.Bytes(math.MaxInt)) == 0 }, api.ErrShort},
		{"Text long", []byte{2, 3, 4}, func(c *nums.Cursor) bool { return c.Text(1) == "" }, api.ErrLong},
		{"Text below 0", []byte{0}, func(c *nums.Cursor) bool { return c.Text(-1) == "" }, api.ErrLong},
		{"Text long and short", []byte{9, 3, 4}, func(c *nums.Cursor) bool { return c.Text(8) == "" }, api.ErrLong},
		{"Text short", []byte{3, 3, 4}, func(c *nums.Cursor) bool { return c.Text(9) == "" }, api.ErrShort},
		{"Text's U", []byte{129, 0}, func(c *nums.Cursor) bool { return c.Text(9) == "" }, api.ErrForm},
		{"Text great", nums.PutU(math.MaxUint64), func(c *nums.Cursor) bool { return c.Text(math.MaxInt) == "" }, api.ErrLong},
	} {
		c := nums.New(append([]byte{1, 1}, x.b...))
		c.Bytes(2)
		if !x.do(c) || c.End() != x.e || c.At() != 2 {
			t.Error(x.name, c.End(), c.At())
		}
		if c.U() != 0 || c.I() != 0 || c.Num(9) != 0 || len(c.Bytes(1)) != 0 || c.Text(9) != "" || len(c.Bytes(0)) != 0 {
			t.Error(x.name, "reads behind its error")
		}
		if len(c.Bytes(-1)) != 0 || c.Num(-1) != 0 || c.End() != x.e || c.At() != 2 {
			t.Error(x.name, "isn't the first error", c.End(), c.At())
		}
	}
}

func TestP1_2NilCursor(t *testing.T) {
	var c *nums.Cursor
	if c.U() != 0 || c.I() != 0 || c.Num(1) != 0 || len(c.Bytes(0)) != 0 || c.Text(1) != "" || c.At() != 0 || c.End() != api.ErrArg {
		t.Error("a nil cursor")
	}
	if c := nums.New(nil); c.End() != api.OK || c.At() != 0 {
		t.Error("a cursor of nothing")
	}
}

func TestP1_2Example(t *testing.T) {
	c := nums.New([]byte{2, 0x61, 0x62, 7})
	if c.Text(4) != "ab" || c.Num(5) != 0 || c.End() != api.ErrRange || c.At() != 3 {
		t.Error("the example")
	}
}

func TestP1_3ThereAndBack(t *testing.T) {
	for _, n := range numbers() {
		b := nums.PutU(n)
		if u, size, e := nums.U(b, 0); u != n || size != len(b) || e != api.OK {
			t.Fatal(n, u, size, e)
		}
		s := int64(n)
		if i, size, e := nums.I(nums.PutI(s), 0); i != s || size != len(nums.PutI(s)) || e != api.OK {
			t.Fatal(s, i, size, e)
		}
		for cut := range b {
			if _, _, e := nums.U(b[:cut], 0); e != api.ErrShort {
				t.Fatal("a beginning is read", b[:cut], e)
			}
		}
	}
}

func TestP1_3WhatIsReadIsWrittenSo(t *testing.T) {
	r := rand.New(rand.NewSource(3))
	for range 20000 {
		b := make([]byte, r.Intn(13))
		for i := range b {
			b[i] = byte(r.Intn(256)) | byte(r.Intn(2)<<7)
			if r.Intn(5) == 0 {
				b[i] = byte(r.Intn(3))
			}
		}
		if u, size, e := nums.U(b, 0); e == api.OK && !bytes.Equal(nums.PutU(u), b[:size]) {
			t.Fatalf("% x: %d", b, u)
		}
		if i, size, e := nums.I(b, 0); e == api.OK && !bytes.Equal(nums.PutI(i), b[:size]) {
			t.Fatalf("% x: %d", b, i)
		}
	}
}

func TestP1_4Memory(t *testing.T) {
	b := []byte{2, 'a', 'b', 'c', 'd'}
	c := nums.New(b)
	copy(b, "zzzzz")
	if c.Text(4) != "ab" {
		t.Error("New keeps what it was handed")
	}
	x := c.Bytes(2)
	x[0], x[1] = 'q', 'q'
	if cap(x) > len(x) {
		x = append(x, 'q')
	}
	d := nums.New([]byte{1, 2, 3})
	one := d.Bytes(1)
	_ = append(one, 9)
	one[0] = 9
	if two := d.Bytes(2); !bytes.Equal(two, []byte{2, 3}) {
		t.Error("answers share memory with the cursor", two)
	}
	room := []byte{0xac, 2, 9, 9}[:2]
	nums.U(room, 0)
	nums.I(room, 0)
	if !bytes.Equal(room[:4], []byte{0xac, 2, 9, 9}) {
		t.Error("what is handed in is changed")
	}
	p, q := nums.PutU(5), nums.PutU(5)
	p[0] = 1
	if q[0] != 5 || nums.PutU(5)[0] != 5 {
		t.Error("answers share memory")
	}
}
