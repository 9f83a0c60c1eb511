package bits_test

import (
	"bytes"
	"math"
	"math/rand"
	"testing"

	"entrepot/api"
	"entrepot/bits"
)

func TestP2_1Reader(t *testing.T) {
	r := bits.NewReader([]byte{0b10110101, 0b11000011, 0xff, 0, 0x80})
	for _, x := range []struct {
		n    int
		want uint32
		at   int
	}{
		{0, 0, 0}, {1, 1, 1}, {3, 0b010, 4}, {6, 0b111011, 10}, {6, 0b110000, 16}, {8, 0xff, 24}, {16, 0x8000, 40}, {0, 0, 40},
	} {
		v, e := r.Bits(x.n)
		if v != x.want || e != api.OK || r.At() != x.at || r.Left() != 40-x.at {
			t.Fatal(x, v, e, r.At(), r.Left())
		}
	}
	r = bits.NewReader([]byte{1, 2, 3, 0x84, 5})
	if v, e := r.Bits(32); v != 0x84030201 || e != api.OK || r.Left() != 8 {
		t.Error("32 bits", v, e)
	}
}

func TestP2_1ReaderErrors(t *testing.T) {
	r := bits.NewReader([]byte{0x2d, 0xff})
	r.Bits(3)
	for _, n := range []int{-1, 33, math.MinInt, math.MaxInt} {
		if v, e := r.Bits(n); v != 0 || e != api.ErrArg || r.At() != 3 || r.Left() != 13 {
			t.Error(n, v, e, r.At())
		}
	}
	for _, n := range []int{14, 32} {
		if v, e := r.Bits(n); v != 0 || e != api.ErrShort || r.At() != 3 || r.Left() != 13 {
			t.Error(n, v, e, r.At())
		}
	}
	if v, e := r.Bits(13); v != 0x1fe5 || e != api.OK {
		t.Errorf("the rest: %x, %d", v, e)
	}
	if _, e := r.Bits(1); e != api.ErrShort {
		t.Error("beyond the end", e)
	}
	if _, e := r.Bits(33); e != api.ErrArg {
		t.Error("ErrArg comes first", e)
	}
	var none *bits.Reader
	if v, e := none.Bits(0); v != 0 || e != api.ErrArg || none.At() != 0 || none.Left() != 0 {
		t.Error("a nil reader")
	}
	none.Align()
	if v, e := bits.NewReader(nil).Bits(0); v != 0 || e != api.OK {
		t.Error("no bits of nothing", e)
	}
}

func TestP2_1ReaderAligns(t *testing.T) {
	r := bits.NewReader([]byte{1, 0xf2, 3})
	r.Align()
	if r.At() != 0 || r.Left() != 24 {
		t.Error("in the beginning", r.At())
	}
	r.Bits(1)
	r.Align()
	r.Align()
	if r.At() != 8 || r.Left() != 16 {
		t.Error("behind a bit", r.At())
	}
	r.Bits(8)
	r.Align()
	if r.At() != 16 {
		t.Error("behind a whole byte", r.At())
	}
	r.Bits(7)
	r.Align()
	if r.At() != 24 || r.Left() != 0 {
		t.Error("at the end", r.At())
	}
	r.Align()
	if r.At() != 24 {
		t.Error("beyond the end", r.At())
	}
}

func TestP2_2Writer(t *testing.T) {
	var w bits.Writer
	if len(w.Bytes()) != 0 {
		t.Error("the zero value has bits")
	}
	w.Bits(5, 3)
	w.Bits(1, 1)
	w.Code(1, 2)
	if !bytes.Equal(w.Bytes(), []byte{0x2d}) {
		t.Errorf("the example: % x", w.Bytes())
	}
	w.Bits(math.MaxUint32, 1)
	w.Code(math.MaxUint32-1, 2)
	if !bytes.Equal(w.Bytes(), []byte{0xed, 0}) {
		t.Errorf("higher bits count: % x", w.Bytes())
	}
	w.Bits(0, 0)
	w.Code(7, 0)
	w.Align()
	if !bytes.Equal(w.Bytes(), []byte{0xed, 0}) {
		t.Errorf("none is written: % x", w.Bytes())
	}
	w.Align()
	w.Bits(1, 1)
	if !bytes.Equal(w.Bytes(), []byte{0xed, 0, 1}) {
		t.Errorf("behind Align: % x", w.Bytes())
	}
}

// row is a row of bits, as bits.
type row []uint32

func (l *row) number(v uint32, n int) {
	for i := 0; i < n; i++ {
		*l = append(*l, v>>i&1)
	}
}

func (l *row) code(v uint32, n int) {
	for i := n - 1; i >= 0; i-- {
		*l = append(*l, v>>i&1)
	}
}

func (l *row) align() {
	for len(*l)%8 != 0 {
		*l = append(*l, 0)
	}
}

func (l row) bytes() []byte {
	b := make([]byte, (len(l)+7)/8)
	for i, x := range l {
		b[i/8] |= byte(x << (i % 8))
	}
	return b
}

func TestP2_2WriterAgainstBits(t *testing.T) {
	r := rand.New(rand.NewSource(2))
	for range 500 {
		var w bits.Writer
		var l row
		for range r.Intn(30) {
			v, n := r.Uint32(), r.Intn(33)
			e := api.OK
			switch r.Intn(5) {
			case 0, 1:
				e = w.Bits(v, n)
				l.number(v, n)
			case 2, 3:
				n = r.Intn(17)
				e = w.Code(v, n)
				l.code(v, n)
			default:
				w.Align()
				l.align()
			}
			if e != api.OK || !bytes.Equal(w.Bytes(), l.bytes()) {
				t.Fatalf("%d: % x, not % x", e, w.Bytes(), l.bytes())
			}
		}
	}
}

func TestP2_2WriterErrors(t *testing.T) {
	var w bits.Writer
	w.Bits(3, 2)
	for _, n := range []int{-1, 33, math.MinInt, math.MaxInt} {
		if w.Bits(1, n) != api.ErrArg {
			t.Error("Bits", n)
		}
	}
	for _, n := range []int{-1, 17, 32, math.MinInt, math.MaxInt} {
		if w.Code(1, n) != api.ErrArg {
			t.Error("Code", n)
		}
	}
	w.Bits(1, 1)
	if !bytes.Equal(w.Bytes(), []byte{7}) {
		t.Errorf("something was written: % x", w.Bytes())
	}
	var none *bits.Writer
	none.Align()
	if none.Bits(1, 1) != api.ErrArg || none.Code(1, 1) != api.ErrArg || len(none.Bytes()) != 0 {
		t.Error("a nil writer")
	}
}

func TestP2_3ThereAndBack(t *testing.T) {
	r := rand.New(rand.NewSource(3))
	for range 300 {
		var w bits.Writer
		var vs []uint32
		var ns []int
		for range r.Intn(40) {
			n := r.Intn(33)
			v := uint32(r.Uint64() & (1<<n - 1))
			vs, ns = append(vs, v), append(ns, n)
			w.Bits(v, n)
		}
		back := bits.NewReader(w.Bytes())
		for i, n := range ns {
			if v, e := back.Bits(n); v != vs[i] || e != api.OK {
				t.Fatal(i, v, vs[i], e)
			}
		}
	}
}

func TestP2_3CodeTurned(t *testing.T) {
	for n := range 17 {
		for _, v := range []uint32{0, 1, 2, 5, 0x1234, 0xffff} {
			turned := uint32(0)
			for i := range n {
				turned |= (v >> i & 1) << (n - 1 - i)
			}
			var a, b bits.Writer
			a.Code(v, n)
			b.Bits(turned, n)
			if !bytes.Equal(a.Bytes(), b.Bytes()) {
				t.Error(v, n)
			}
		}
	}
}

func TestP2_4Memory(t *testing.T) {
	b := []byte{0x2d, 1}
	r := bits.NewReader(b)
	b[0], b[1] = 0, 0
	if v, _ := r.Bits(16); v != 0x12d {
		t.Errorf("NewReader keeps what it was handed: %x", v)
	}
	var w bits.Writer
	w.Bits(1, 1)
	x := w.Bytes()
	x[0] = 0xf0
	_ = append(x, 9)
	w.Bits(1, 8)
	if !bytes.Equal(w.Bytes(), []byte{3, 0}) {
		t.Errorf("Bytes shares memory: % x", w.Bytes())
	}
}

func TestP2_2Example(t *testing.T) {
	r := bits.NewReader([]byte{0x2d})
	if v, e := r.Bits(3); v != 5 || e != api.OK {
		t.Error(v, e)
	}
	if v, e := r.Bits(6); v != 0 || e != api.ErrShort || r.At() != 3 {
		t.Error(v, e, r.At())
	}
	if r.Align(); r.At() != 8 {
		t.Error(r.At())
	}
}
