package delta_test

import (
	"bytes"
	"math"
	"math/rand"
	"slices"
	"testing"

	"entrepot/api"
	"entrepot/delta"
	"entrepot/nums"
)

var ways = []int{delta.Plain, delta.Once, delta.Twice}

// rows are rows of all kinds: short, full, at the bounds, steady, wild.
func rows() [][]int64 {
	l := [][]int64{
		nil, {0}, {-1}, {api.MaxInt}, {-api.MaxInt},
		{api.MaxInt, -api.MaxInt, api.MaxInt, -api.MaxInt},
		{-api.MaxInt, -api.MaxInt, api.MaxInt, api.MaxInt},
		{10, 20, 31, 31}, {1000, 2000, 3000, 4000},
		make([]int64, api.MaxRows),
	}
	r := rand.New(rand.NewSource(1))
	for range 300 {
		row := make([]int64, r.Intn(20))
		n, step := r.Int63n(1000), r.Int63n(500)
		for i := range row {
			n += step + r.Int63n(3)
			row[i] = n
			if r.Intn(30) == 0 {
				row[i] = r.Int63n(2*api.MaxInt) - api.MaxInt
			}
		}
		l = append(l, row)
	}
	return l
}

// turned says what a way makes of a row, place by place.
func turned(l []int64, way int) []int64 {
	var t []int64
	for i, n := range l {
		switch {
		case way == delta.Plain || i == 0:
			t = append(t, n)
		case way == delta.Once || i == 1:
			t = append(t, n-l[i-1])
		default:
			t = append(t, n-2*l[i-1]+l[i-2])
		}
	}
	return t
}

func spelled(l []int64) []byte {
	b := nums.PutU(uint64(len(l)))
	for _, n := range l {
		b = append(b, nums.PutI(n)...)
	}
	return b
}

func TestP4_1Turn(t *testing.T) {
	for _, l := range rows() {
		for _, way := range ways {
			got, e := delta.Turn(l, way)
			if e != api.OK || !slices.Equal(got, turned(l, way)) {
				t.Fatal(l, way, got, e)
			}
			b, e := delta.Encode(l, way)
			if e != api.OK || !bytes.Equal(b, spelled(turned(l, way))) {
				t.Fatal(l, way, b, e)
			}
		}
	}
	if delta.Plain != 0 || delta.Once != 1 || delta.Twice != 2 {
		t.Error("the ways")
	}
	l, _ := delta.Turn([]int64{10, 20, 31, 31}, delta.Once)
	m, _ := delta.Turn([]int64{10, 20, 31, 31}, delta.Twice)
	if !slices.Equal(l, []int64{10, 10, 11, 0}) || !slices.Equal(m, []int64{10, 10, 1, -11}) {
		t.Error("the example", l, m)
	}
	if b, _ := delta.Encode([]int64{10, 20, 31, 31}, delta.Twice); !bytes.Equal(b, []byte{4, 0x14, 0x14, 2, 0x15}) {
		t.Errorf("the example: % x", b)
	}
}

func TestP4_1Errors(t *testing.T) {
	long := make([]int64, api.MaxRows+1)
	far := append(slices.Clone(long), api.MaxInt+1)
	for _, x := range []struct {
		l   []int64
		way int
		e   api.Errno
	}{
		{nil, -1, api.ErrArg}, {nil, 3, api.ErrArg}, {far, 3, api.ErrArg}, {nil, math.MinInt, api.ErrArg},
		{long, 0, api.ErrLong}, {long, 2, api.ErrLong}, {far, 1, api.ErrLong},
		{[]int64{1, api.MaxInt + 1}, 0, api.ErrRange}, {[]int64{-api.MaxInt - 1, 1}, 1, api.ErrRange},
		{[]int64{math.MaxInt64, math.MinInt64}, 2, api.ErrRange},
	} {
		l, e := delta.Turn(x.l, x.way)
		b, f := delta.Encode(x.l, x.way)
		if e != x.e || f != x.e || len(l) != 0 || len(b) != 0 {
			t.Error(len(x.l), x.way, e, f, "not", x.e)
		}
	}
}

func TestP4_2Decode(t *testing.T) {
	for _, x := range []struct {
		b   []byte
		way int
		e   api.Errno
	}{
		{[]byte{0}, -1, api.ErrArg}, {nil, 3, api.ErrArg},
		{nil, 0, api.ErrShort}, {[]byte{0x80}, 1, api.ErrShort}, {[]byte{0x80, 0}, 2, api.ErrForm},
		{nums.PutU(api.MaxRows + 1), 0, api.ErrLong}, {nums.PutU(math.MaxUint64), 0, api.ErrLong},
		{nums.PutU(api.MaxRows), 0, api.ErrShort},
		{[]byte{1}, 0, api.ErrShort}, {[]byte{2, 1}, 0, api.ErrShort}, {[]byte{2, 1, 0x80}, 0, api.ErrShort},
		{[]byte{2, 1, 0x80, 0, 9}, 0, api.ErrForm},
		{[]byte{0, 0}, 0, api.ErrLong}, {[]byte{1, 1, 0x80}, 2, api.ErrLong},
		{[]byte{0}, 2, api.OK},
		{spelled([]int64{api.MaxInt + 1}), 0, api.ErrRange},
		{append(spelled([]int64{5, -api.MaxInt - 1}), 7), 0, api.ErrRange},
		{spelled([]int64{api.MaxInt, 1}), 0, api.OK},
		{spelled([]int64{api.MaxInt, 1}), 1, api.ErrRange},
		{spelled([]int64{api.MaxInt, -2 * api.MaxInt}), 1, api.OK},
		{spelled([]int64{api.MaxInt, -2*api.MaxInt - 1}), 1, api.ErrRange},
		{spelled([]int64{api.MaxInt, math.MaxInt64}), 1, api.ErrRange},
		{spelled([]int64{-api.MaxInt, math.MinInt64}), 1, api.ErrRange},
		{spelled([]int64{api.MaxInt, math.MinInt64, 0}), 1, api.ErrRange},
		{spelled([]int64{-api.MaxInt, 2 * api.MaxInt, -2 * api.MaxInt}), 2, api.OK},
		{spelled([]int64{-api.MaxInt, 2 * api.MaxInt, -2*api.MaxInt + 1}), 2, api.ErrRange},
		{spelled([]int64{-api.MaxInt, 2 * api.MaxInt, -4 * api.MaxInt}), 2, api.OK},
		{spelled([]int64{-api.MaxInt, 2 * api.MaxInt, -4*api.MaxInt - 1}), 2, api.ErrRange},
		{spelled([]int64{-api.MaxInt, 2 * api.MaxInt, math.MaxInt64}), 2, api.ErrRange},
		{spelled([]int64{api.MaxInt, -2 * api.MaxInt, math.MinInt64}), 2, api.ErrRange},
		{append(spelled([]int64{3, 0})[:2], 0x80, 0), 1, api.ErrForm},
	} {
		l, e := delta.Decode(x.b, x.way)
		if e != x.e || e != api.OK && len(l) != 0 {
			t.Errorf("% x in the way %d: %v, %d, not %d", x.b, x.way, l, e, x.e)
		}
	}
}

func TestP4_2WhatIsReadIsWrittenSo(t *testing.T) {
	r := rand.New(rand.NewSource(2))
	for range 20000 {
		b := make([]byte, r.Intn(8))
		for i := range b {
			b[i] = byte(r.Intn(256) >> r.Intn(8))
		}
		way := r.Intn(3)
		l, e := delta.Decode(b, way)
		if e != api.OK {
			continue
		}
		if again, e := delta.Encode(l, way); e != api.OK || !bytes.Equal(again, b) {
			t.Fatalf("% x: %v", b, l)
		}
	}
}

func TestP4_3Best(t *testing.T) {
	for _, l := range rows() {
		best := 0
		for _, way := range ways {
			if len(spelled(turned(l, way))) < len(spelled(turned(l, best))) {
				best = way
			}
		}
		if delta.Best(l) != best {
			t.Fatal(l, delta.Best(l), best)
		}
	}
	for _, x := range []struct {
		l    []int64
		best int
	}{
		{nil, delta.Plain},
		{[]int64{1000, 2000, 3000, 4000}, delta.Twice},
		{[]int64{1000, 1001, 1003, 1000}, delta.Once},
		{[]int64{5, 5}, delta.Plain},
		{[]int64{64, api.MaxInt + 1}, delta.Plain},
		{slices.Repeat([]int64{1 << 40}, api.MaxRows+1), delta.Plain},
		{slices.Repeat([]int64{1 << 40}, api.MaxRows), delta.Once},
	} {
		if delta.Best(x.l) != x.best {
			t.Error(len(x.l), delta.Best(x.l), x.best)
		}
	}
}

func TestP4_4ThereAndBack(t *testing.T) {
	for _, l := range rows() {
		for _, way := range ways {
			b, _ := delta.Encode(l, way)
			if back, e := delta.Decode(b, way); e != api.OK || !slices.Equal(back, l) {
				t.Fatal(l, way, back, e)
			}
		}
	}
}

func TestP4_4Memory(t *testing.T) {
	room := []int64{10, 20, 40, 7, 7}
	for _, way := range ways {
		got, _ := delta.Turn(room[:3], way)
		delta.Encode(room[:3], way)
		delta.Best(room[:3])
		got[0] = 99
		_ = append(got, 98, 98)
		if !slices.Equal(room, []int64{10, 20, 40, 7, 7}) {
			t.Fatal("a row that is handed in is changed", way, room)
		}
	}
	b := []byte{2, 4, 6, 9, 9}
	delta.Decode(b[:3], 1)
	if !bytes.Equal(b, []byte{2, 4, 6, 9, 9}) {
		t.Error("bytes that are handed in are changed")
	}
}
