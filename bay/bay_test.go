package bay_test

import (
	"math"
	"math/rand"
	"slices"
	"strings"
	"testing"

	"entrepot/api"
	"entrepot/bay"
)

type keyed = bay.Keyed[int]

func TestP15_1New(t *testing.T) {
	for _, x := range []struct {
		room int
		ok   bool
	}{{0, false}, {-1, false}, {math.MinInt, false}, {math.MaxInt, false}, {api.MaxRows + 1, false}, {1, true}, {api.MaxRows, true}} {
		b := bay.New[string](x.room)
		if (b != nil) != x.ok {
			t.Error("New", x.room)
		}
		if b != nil && (b.Len() != 0 || b.Room() != x.room) {
			t.Error("it isn't empty", b.Len(), b.Room())
		}
		if (bay.NewBay[string](x.room) != nil) != x.ok {
			t.Error("NewBay", x.room)
		}
	}
}

func TestP15_1Box(t *testing.T) {
	b := bay.New[int](2)
	if x, ok := b.Take(); x != 0 || ok {
		t.Error("an empty box", x, ok)
	}
	if !b.Put(5) || !b.Put(6) || b.Put(7) || b.Len() != 2 || b.Room() != 0 {
		t.Error("the example", b.Len(), b.Room())
	}
	if x, ok := b.Take(); x != 5 || !ok || b.Len() != 1 || b.Room() != 1 {
		t.Error("the first thing", x, ok)
	}
	if !b.Put(8) || b.Put(9) {
		t.Error("room again")
	}
	if l := b.Drain(); !slices.Equal(l, []int{6, 8}) || b.Len() != 0 || b.Room() != 2 {
		t.Error("Drain", l, b.Len())
	}
	if l := b.Drain(); len(l) != 0 {
		t.Error("Drain of nothing", l)
	}
	if !b.Put(0) {
		t.Error("behind Drain")
	}
	if x, ok := b.Take(); x != 0 || !ok {
		t.Error("a thing that is zero is a thing", x, ok)
	}
}

func TestP15_1Either(t *testing.T) {
	a, b := bay.New[string](3), bay.New[string](3)
	a.Put("a1")
	b.Put("b1")
	a.Put("a2")
	b.Put("b2")
	check := func(first, second *bay.Box[string], want string, from int) {
		t.Helper()
		if x, n := bay.Either(first, second); x != want || n != from {
			t.Error(x, n, "not", want, from)
		}
	}
	check(b, a, "b1", 1)
	check(a, b, "a1", 1)
	check(a, b, "a2", 1)
	check(a, b, "b2", 2)
	check(a, b, "", 0)
	check(nil, a, "", 0)
	a.Put("a3")
	a.Put("a4")
	check(nil, a, "a3", 2)
	check(a, nil, "a4", 1)
	check(nil, nil, "", 0)
}

func TestP15_1Nil(t *testing.T) {
	var b *bay.Box[int]
	x, ok := b.Take()
	if b.Put(1) || x != 0 || ok || b.Len() != 0 || b.Room() != 0 || len(b.Drain()) != 0 {
		t.Error("a nil box")
	}
	var y *bay.Bay[int]
	if !y.Put() || y.Put(keyed{Key: "a"}) || y.Most() != 0 || y.Len() != 0 || len(y.Drain()) != 0 {
		t.Error("a nil bay")
	}
}

func TestP15_2Bay(t *testing.T) {
	b := bay.NewBay[int](2)
	if b.Most() != 0 || b.Len() != 0 || len(b.Drain()) != 0 || !b.Put() {
		t.Error("it isn't empty")
	}
	if !b.Put(keyed{"a", 1}, keyed{"b", 2}, keyed{"a", 3}) || b.Most() != 2 || b.Len() != 3 {
		t.Error("the example", b.Most(), b.Len())
	}
	if b.Put(keyed{"b", 4}, keyed{"a", 5}) || b.Most() != 2 || b.Len() != 3 {
		t.Error("taken in by half", b.Len())
	}
	if b.Put(keyed{"c", 1}, keyed{"c", 2}, keyed{"c", 3}) || b.Len() != 3 || b.Put(keyed{"b", 1}, keyed{"b", 2}) {
		t.Error("no room with all that are put at once")
	}
	if l := b.Drain(); !slices.Equal(l, []keyed{{"a", 1}, {"a", 3}, {"b", 2}}) || b.Len() != 0 || b.Most() != 0 {
		t.Error("Drain", l)
	}
	if !b.Put(keyed{"b", 1}, keyed{"", 2}, keyed{"a", 3}, keyed{"b", 4}) {
		t.Error("behind Drain")
	}
	if l := b.Drain(); !slices.Equal(l, []keyed{{"", 2}, {"a", 3}, {"b", 1}, {"b", 4}}) {
		t.Error("rising keys", l)
	}
}

func TestP15_3WhatIsTakenWasPut(t *testing.T) {
	r := rand.New(rand.NewSource(1))
	for range 200 {
		room := 1 + r.Intn(5)
		b := bay.New[int](room)
		var l []int
		for i := range 60 {
			switch r.Intn(4) {
			case 0, 1:
				if b.Put(i) != (len(l) < room) {
					t.Fatal("Put", len(l), room)
				}
				if len(l) < room {
					l = append(l, i)
				}
			case 2:
				x, ok := b.Take()
				if ok != (len(l) > 0) || ok && x != l[0] {
					t.Fatal("Take", x, ok, l)
				}
				if ok {
					l = l[1:]
				}
			default:
				if r.Intn(5) == 0 {
					if got := b.Drain(); !slices.Equal(got, l) {
						t.Fatal("Drain", got, l)
					}
					l = nil
				}
			}
			if b.Len() != len(l) || b.Room() != room-len(l) {
				t.Fatal("Len, Room", b.Len(), b.Room(), l)
			}
		}
	}
}

func TestP15_3Bays(t *testing.T) {
	r := rand.New(rand.NewSource(2))
	for range 200 {
		room := 1 + r.Intn(5)
		b := bay.NewBay[int](room)
		held := map[string][]int{}
		for i := range 40 {
			var l []keyed
			for range r.Intn(5) {
				l = append(l, keyed{[]string{"", "a", "b", "aa"}[r.Intn(4)], i*10 + len(l)})
			}
			next := map[string][]int{}
			fits := true
			for _, x := range l {
				next[x.Key] = append(next[x.Key], x.X)
				fits = fits && len(held[x.Key])+len(next[x.Key]) <= room
			}
			if b.Put(l...) != fits {
				t.Fatal("Put", l, held, room)
			}
			most, n := 0, 0
			for key := range next {
				if fits {
					held[key] = append(held[key], next[key]...)
				}
			}
			for _, l := range held {
				most, n = max(most, len(l)), n+len(l)
			}
			if b.Most() != most || b.Len() != n || most > room {
				t.Fatal("Most, Len", b.Most(), b.Len())
			}
			if r.Intn(6) == 0 {
				var want []keyed
				for _, key := range []string{"", "a", "aa", "b"} {
					for _, x := range held[key] {
						want = append(want, keyed{key, x})
					}
				}
				if got := b.Drain(); !slices.Equal(got, want) {
					t.Fatal("Drain", got, want)
				}
				held = map[string][]int{}
			}
		}
	}
}

func TestP15_3AnyKeys(t *testing.T) {
	b := bay.NewBay[string](1)
	long := strings.Repeat("k", 5000)
	if !b.Put(bay.Keyed[string]{Key: long, X: "x"}, bay.Keyed[string]{Key: "\xff\x00", X: "y"}) || b.Put(bay.Keyed[string]{Key: long, X: "z"}) {
		t.Error("any key")
	}
}
