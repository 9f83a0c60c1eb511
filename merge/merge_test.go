package merge_test

import (
	"bytes"
	"cmp"
	"fmt"
	"hash/crc32"
	"math"
	"math/rand"
	"slices"
	"testing"

	"entrepot/api"
	"entrepot/merge"
	"entrepot/record"
)

func row(time, maker int) api.Row {
	return api.Row{Record: api.Record{Kind: api.Log, Time: time, Labels: []api.Label{{Name: "a", Value: "1"}}}, Maker: maker, Seq: 1}
}

func same(a, b []api.Row) bool { return slices.EqualFunc(a, b, record.Same) }

func TestP16_1Heap(t *testing.T) {
	h := merge.NewHeap(func(a, b int) bool { return a < b })
	if x, ok := h.Pop(); x != 0 || ok || h.Len() != 0 {
		t.Error("an empty one")
	}
	r := rand.New(rand.NewSource(1))
	var l []int
	for range 4000 {
		if r.Intn(5) < 3 {
			n := r.Intn(50) - 25
			h.Push(n)
			l = append(l, n)
		} else {
			slices.Sort(l)
			x, ok := h.Pop()
			if ok != (len(l) > 0) || ok && x != l[0] || !ok && x != 0 {
				t.Fatal(x, ok, l)
			}
			if ok {
				l = l[1:]
			}
		}
		if h.Len() != len(l) {
			t.Fatal("Len", h.Len(), len(l))
		}
	}
}

func TestP16_1AnyType(t *testing.T) {
	type thing struct {
		name string
		n    int
	}
	h := merge.NewHeap(func(a, b thing) bool { return a.n > b.n })
	for i, name := range []string{"a", "b", "c", "d"} {
		h.Push(thing{name, i % 3})
	}
	if x, ok := h.Pop(); !ok || x.name != "c" {
		t.Error("the least by what less says", x)
	}
	if x, ok := h.Pop(); !ok || x.name != "b" {
		t.Error("the next one", x)
	}
	one, _ := h.Pop()
	two, _ := h.Pop()
	if one.name+two.name != "ad" && one.name+two.name != "da" || h.Len() != 0 {
		t.Error("those of which none is less", one, two)
	}
}

func TestP16_1Nil(t *testing.T) {
	var h *merge.Heap[int]
	h.Push(1)
	if x, ok := h.Pop(); x != 0 || ok || h.Len() != 0 {
		t.Error("a nil heap")
	}
}

func TestP16_2Rows(t *testing.T) {
	r := rand.New(rand.NewSource(2))
	for range 300 {
		lists := make([][]api.Row, r.Intn(6))
		var all []api.Row
		for i := range 40 {
			if len(lists) > 0 {
				x := row(r.Intn(9), 1+r.Intn(3))
				x.Seq, x.Place = i, r.Intn(3)
				k := r.Intn(len(lists))
				lists[k] = append(lists[k], x)
				all = append(all, x)
			}
		}
		for k := range lists {
			lists[k] = record.Sort(lists[k])
		}
		if got, e := merge.Rows(lists...); e != api.OK || !same(got, record.Sort(all)) {
			t.Fatal(len(all), len(got), e)
		}
	}
}

func TestP16_2Errors(t *testing.T) {
	other := row(2, 1)
	other.Text = "other"
	for i, x := range []struct {
		lists [][]api.Row
		e     api.Errno
	}{
		{nil, api.OK}, {[][]api.Row{nil, {}, nil}, api.OK}, {[][]api.Row{{row(1, 1), row(2, 1)}, nil, {row(2, 2)}}, api.OK},
		{[][]api.Row{{row(2, 1), row(1, 1)}}, api.ErrForm}, {[][]api.Row{{row(1, 1)}, {row(2, 2), row(2, 1)}}, api.ErrForm}, {[][]api.Row{{row(1, 1), row(1, 1)}}, api.ErrForm},
		{[][]api.Row{{row(1, 1)}, {row(1, 1)}}, api.ErrExist}, {[][]api.Row{{row(1, 1), row(2, 1)}, {row(3, 1)}, {row(0, 1), other}}, api.ErrExist},
		{[][]api.Row{{row(1, 1)}, {row(1, 1)}, {row(2, 1), row(1, 1)}}, api.ErrForm},
	} {
		if l, e := merge.Rows(x.lists...); e != x.e || e != api.OK && len(l) != 0 {
			t.Error(i, len(l), e, "not", x.e)
		}
	}
}

func entry(key string, window int, part string, rows, born int) api.Entry {
	return api.Entry{Key: key, Window: window, Part: part, Rows: rows, Born: born}
}

// order is that in which blocks are chosen.
func order(a, b api.Entry) int {
	return cmp.Or(cmp.Compare(a.Window, b.Window), cmp.Compare(a.Part, b.Part), cmp.Compare(a.Born, b.Born), cmp.Compare(a.Key, b.Key))
}

// may two be put together?
func may(a, b api.Entry, small, most int) bool {
	return a.Window == b.Window && a.Part == b.Part && a.Rows < small && b.Rows < small && a.Rows+b.Rows <= most
}

// model chooses by the chapter.
func model(l []api.Entry, small, most int) []string {
	l = slices.Clone(l)
	slices.SortStableFunc(l, order)
	for i := range l {
		for k := i + 1; k < len(l); k++ {
			if !may(l[i], l[k], small, most) {
				continue
			}
			keys := []string{l[i].Key, l[k].Key}
			rows := l[i].Rows + l[k].Rows
			for _, x := range l[k+1:] {
				if x.Window == l[i].Window && x.Part == l[i].Part && x.Rows < small && rows+x.Rows <= most {
					keys = append(keys, x.Key)
					rows += x.Rows
				}
			}
			return keys
		}
	}
	return nil
}

func TestP16_3Choose(t *testing.T) {
	r := rand.New(rand.NewSource(3))
	some := 0
	for range 5000 {
		var l []api.Entry
		for i := range r.Intn(12) {
			l = append(l, entry(fmt.Sprint("k", (i*7)%12), r.Intn(2), []string{"{}", "{a=\"\"}"}[r.Intn(2)], 1+r.Intn(9), r.Intn(4)))
		}
		small, most := r.Intn(9), r.Intn(16)
		got, want := merge.Choose(l, small, most), model(l, small, most)
		if !slices.Equal(got, want) {
			t.Fatal(l, small, most, got, want)
		}
		if len(want) > 2 {
			some++
		}
	}
	if some < 100 {
		t.Error("seldom more than two", some)
	}
}

func TestP16_3Examples(t *testing.T) {
	l := []api.Entry{entry("d", 1, "{}", 3, 1), entry("c", 1, "{}", 9, 2), entry("b", 1, "{}", 4, 3), entry("a", 1, "{}", 2, 4)}
	if got := merge.Choose(l, 5, 8); !slices.Equal(got, []string{"d", "b"}) {
		t.Error("the example", got)
	}
	if got := merge.Choose(l, 5, 9); !slices.Equal(got, []string{"d", "b", "a"}) {
		t.Error("one more fits", got)
	}
	if got := merge.Choose(l, 4, 8); !slices.Equal(got, []string{"d", "a"}) {
		t.Error("fewer than small", got)
	}
	if got := merge.Choose(l, 5, 5); !slices.Equal(got, []string{"d", "a"}) {
		t.Error("the first k that fits", got)
	}
	for i, l := range [][]api.Entry{nil, l[:1], l[:2], {entry("a", 1, "{}", 1, 1), entry("b", 2, "{}", 1, 1)}, {entry("a", 1, "{}", 1, 1), entry("b", 1, "", 1, 1)}} {
		if got := merge.Choose(l, 5, 100); len(got) != 0 {
			t.Error("there are no two", i, got)
		}
	}
	if got := merge.Choose([]api.Entry{entry("b", 1, "{}", 1, 1), entry("a", 1, "{}", 1, 1), entry("z", 0, "{}", 1, 9)}, 2, 2); !slices.Equal(got, []string{"a", "b"}) {
		t.Error("by Key", got)
	}
}

func TestP16_3AnyNumbers(t *testing.T) {
	ends := []int{math.MinInt, -1, 0, 1, math.MaxInt}
	var l []api.Entry
	for i, rows := range ends {
		l = append(l, entry(fmt.Sprint("k", i), 1, "{}", rows, 1), entry(fmt.Sprint("l", i), rows, "{", rows, rows))
	}
	for _, small := range ends {
		for _, most := range ends {
			if keys := merge.Choose(l, small, most); len(keys) == 1 {
				t.Error("one alone", small, most, keys)
			}
		}
	}
}

func TestP16_4Entry(t *testing.T) {
	b := []byte("123456789")
	e := merge.Entry("b/1", 7, "{}", []api.Row{row(70, 1), row(75, 1), row(79, 1)}, b, 33)
	if e != (api.Entry{Key: "b/1", Window: 7, Part: "{}", First: 70, Last: 79, Rows: 3, Size: 9, Sum: crc32.ChecksumIEEE(b), Born: 33}) {
		t.Error(e)
	}
	e = merge.Entry("", -1, "x", nil, nil, 0)
	if e != (api.Entry{Window: -1, Part: "x"}) {
		t.Error("of no rows", e)
	}
	e = merge.Entry("k", 1, "{}", []api.Row{row(5, 1)}, b[:1], 0)
	if e.First != 5 || e.Last != 5 || e.Rows != 1 {
		t.Error("of one row", e)
	}
}

func TestP16_5NothingIsLeft(t *testing.T) {
	r := rand.New(rand.NewSource(4))
	for range 3000 {
		var l []api.Entry
		for i := range r.Intn(10) {
			l = append(l, entry(fmt.Sprint("k", i), r.Intn(3), "{}", 1+r.Intn(9), r.Intn(3)))
		}
		small, most := r.Intn(9), r.Intn(12)
		keys := merge.Choose(l, small, most)
		rows := 0
		for i, a := range l {
			for _, b := range l[i+1:] {
				if len(keys) == 0 && may(a, b, small, most) {
					t.Fatal("two are left", a, b)
				}
			}
			if slices.Contains(keys, a.Key) {
				rows += a.Rows
			}
		}
		if rows > most || len(keys) == 1 {
			t.Fatal("too many rows", rows, most, keys)
		}
	}
}

func TestP16_5Memory(t *testing.T) {
	a, b := []api.Row{row(1, 1), row(3, 1), row(9, 9)}, []api.Row{row(2, 1)}
	lists := [][]api.Row{a[:2], b}
	got, _ := merge.Rows(lists...)
	for i := range got {
		got[i].Labels[0].Value = "9"
		got[i].Time = 77
	}
	_ = append(got, row(0, 0))
	if a[0].Labels[0].Value != "1" || b[0].Labels[0].Value != "1" || a[0].Time != 1 || b[0].Time != 2 || a[2].Time != 9 || len(lists[0]) != 2 {
		t.Error("Rows shares memory")
	}
	got, _ = merge.Rows(a[:2])
	got[0].Labels[0].Value, got[0].Time = "9", 77
	if a[0].Labels[0].Value != "1" || a[0].Time != 1 {
		t.Error("of one list Rows shares memory")
	}
	l := []api.Entry{entry("b", 2, "{}", 1, 1), entry("a", 1, "{}", 1, 1), entry("c", 1, "{}", 1, 1)}
	merge.Choose(l, 5, 5)
	if l[0].Key != "b" || l[1].Key != "a" {
		t.Error("Choose changes what is handed in")
	}
	x := []byte("abc")
	merge.Entry("k", 0, "{}", a, x[:2], 0)
	if !bytes.Equal(x, []byte("abc")) {
		t.Error("Entry changes what is handed in")
	}
}
