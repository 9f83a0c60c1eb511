package record_test

import (
	"math"
	"math/rand"
	"slices"
	"strings"
	"testing"

	"entrepot/api"
	"entrepot/label"
	"entrepot/record"
)

func log(time int, text string, labels ...api.Label) api.Record {
	return api.Record{Kind: api.Log, Time: time, Text: text, Labels: labels}
}

func metric(time, value int, labels ...api.Label) api.Record {
	return api.Record{Kind: api.Metric, Time: time, Value: value, Labels: labels}
}

func row(time, maker, seq, place int) api.Row {
	return api.Row{Record: log(time, "x"), Maker: maker, Seq: seq, Place: place}
}

// with changes a row.
func with(x api.Row, change func(*api.Row)) api.Row {
	x.Labels = slices.Clone(x.Labels)
	change(&x)
	return x
}

func same(a, b []api.Row) bool { return slices.EqualFunc(a, b, record.Same) }

func TestP9_1Right(t *testing.T) {
	text := strings.Repeat("t", api.MaxText)
	bad := api.Label{Name: "A"}
	for i, x := range []struct {
		r    api.Record
		want bool
	}{
		{log(0, ""), true}, {log(api.MaxNum-1, text), true}, {log(0, text+"t"), false}, {log(-1, ""), false}, {log(api.MaxNum, ""), false}, {log(math.MinInt, ""), false}, {log(math.MaxInt, ""), false},
		{log(0, "\x00\xff"), true}, {log(0, "", bad), false}, {log(0, "", api.Label{Name: "a"}), true}, {log(0, "", api.Label{Name: "b"}, api.Label{Name: "a"}), false},
		{api.Record{Kind: api.Log, Value: 1}, false}, {api.Record{Kind: api.Log, Value: -1}, false}, {api.Record{Kind: api.Log, Null: true}, false},
		{metric(0, 0), true}, {metric(5, api.MaxInt), true}, {metric(5, -api.MaxInt), true}, {metric(5, api.MaxInt+1), false}, {metric(5, -api.MaxInt-1), false}, {metric(5, math.MinInt), false}, {metric(api.MaxNum, 0), false},
		{api.Record{Kind: api.Metric, Null: true}, true}, {api.Record{Kind: api.Metric, Null: true, Value: 1}, false}, {api.Record{Kind: api.Metric, Text: "x"}, false}, {metric(0, 0, bad), false},
		{api.Record{}, false}, {api.Record{Kind: 3}, false}, {api.Record{Kind: -1}, false},
	} {
		if record.Right(x.r) != x.want {
			t.Error(i, x.r, "isn't", x.want)
		}
	}
}

func TestP9_1Check(t *testing.T) {
	one := []api.Record{log(1, "x")}
	many := slices.Repeat(one, api.MaxBatch)
	// 20 records of 204 and one of 16 weigh 4096.
	heavy := slices.Repeat([]api.Record{log(1, strings.Repeat("x", 180), api.Label{Name: "ab", Value: "cdefgh"})}, 20)
	full := append(slices.Clone(heavy), log(1, ""))
	for i, x := range []struct {
		b api.Batch
		e api.Errno
	}{
		{api.Batch{Maker: 1, Seq: 1, Records: one}, api.OK}, {api.Batch{Maker: api.MaxMakers, Seq: api.MaxNum - 1, Records: many}, api.OK},
		{api.Batch{Maker: 0, Seq: 0, Records: append(slices.Clone(many), api.Record{})}, api.ErrBig}, {api.Batch{Maker: 1, Seq: 1, Records: slices.Repeat(one, api.MaxBatch+1)}, api.ErrBig},
		{api.Batch{Maker: 0, Seq: 1, Records: one}, api.ErrForm}, {api.Batch{Maker: api.MaxMakers + 1, Seq: 1, Records: one}, api.ErrForm}, {api.Batch{Maker: -1, Seq: 1, Records: one}, api.ErrForm},
		{api.Batch{Maker: 1, Seq: 0, Records: one}, api.ErrForm}, {api.Batch{Maker: 1, Seq: api.MaxNum, Records: one}, api.ErrForm}, {api.Batch{Maker: 1, Seq: math.MinInt, Records: one}, api.ErrForm},
		{api.Batch{Maker: 1, Seq: 1}, api.ErrForm}, {api.Batch{Maker: 1, Seq: 1, Records: append(slices.Clone(one), api.Record{})}, api.ErrForm}, {api.Batch{Maker: 1, Seq: 1, Records: append([]api.Record{{}}, one...)}, api.ErrForm},
		{api.Batch{Maker: 1, Seq: 1, Records: full}, api.OK},
		{api.Batch{Maker: 1, Seq: 1, Records: append(slices.Clone(heavy), log(1, "x"))}, api.ErrBig},
		{api.Batch{Maker: 1, Seq: 1, Records: append(slices.Clone(heavy), metric(1, 5))}, api.OK},
		{api.Batch{Maker: 1, Seq: 1, Records: append(slices.Clone(heavy), log(1, "", api.Label{Name: "a"}))}, api.ErrBig},
		{api.Batch{Maker: 0, Seq: 1, Records: append(slices.Clone(heavy), log(1, "x"))}, api.ErrForm},
		{api.Batch{Maker: 1, Seq: 1, Records: append(slices.Clone(full), api.Record{Kind: api.Log, Time: -1})}, api.ErrForm},
	} {
		if e := record.Check(x.b); e != x.e {
			t.Error(i, e, "not", x.e)
		}
	}
}

func TestP9_2Rows(t *testing.T) {
	b := api.Batch{Maker: 3, Seq: 9, Records: []api.Record{log(5, "a", api.Label{Name: "a"}), metric(2, 7), {}}}
	l := record.Rows(b)
	want := []api.Row{{Record: b.Records[0], Maker: 3, Seq: 9, Place: 0}, {Record: b.Records[1], Maker: 3, Seq: 9, Place: 1}, {Record: b.Records[2], Maker: 3, Seq: 9, Place: 2}}
	if !same(l, want) {
		t.Error(l)
	}
	if len(record.Rows(api.Batch{})) != 0 {
		t.Error("no records")
	}
}

func TestP9_2Compare(t *testing.T) {
	rising := []api.Row{row(math.MinInt, 9, 9, 9), row(1, 1, 1, 1), row(1, 1, 1, 2), row(1, 1, 2, 0), row(1, 2, 1, 0), row(2, 1, 1, 0), row(2, 1, 1, math.MaxInt), row(math.MaxInt, 0, 0, 0)}
	for i, a := range rising {
		for k, b := range rising {
			want := 0
			if i < k {
				want = -1
			} else if i > k {
				want = 1
			}
			if record.Compare(a, b) != want {
				t.Error(a, b, record.Compare(a, b))
			}
		}
	}
	if record.Compare(row(1, 2, 3, 4), with(row(1, 2, 3, 4), func(x *api.Row) { x.Text, x.Kind = "z", 2 })) != 0 {
		t.Error("texts play no part")
	}
}

func TestP9_2Same(t *testing.T) {
	x := api.Row{Record: log(1, "x", api.Label{Name: "a", Value: "1"}, api.Label{Name: "b"}), Maker: 2, Seq: 3, Place: 4}
	if !record.Same(x, with(x, func(*api.Row) {})) {
		t.Error("a copy")
	}
	for i, change := range []func(*api.Row){
		func(x *api.Row) { x.Kind = 2 }, func(x *api.Row) { x.Time = 2 }, func(x *api.Row) { x.Text = "" }, func(x *api.Row) { x.Value = 1 }, func(x *api.Row) { x.Null = true },
		func(x *api.Row) { x.Maker = 1 }, func(x *api.Row) { x.Seq = 1 }, func(x *api.Row) { x.Place = 1 }, func(x *api.Row) { x.Labels[0].Name = "c" }, func(x *api.Row) { x.Labels[1].Value = "c" },
		func(x *api.Row) { x.Labels = x.Labels[:1] }, func(x *api.Row) { x.Labels = nil }, func(x *api.Row) { x.Labels[0], x.Labels[1] = x.Labels[1], x.Labels[0] },
	} {
		if record.Same(x, with(x, change)) {
			t.Error(i)
		}
	}
	if !record.Same(row(1, 1, 1, 1), with(row(1, 1, 1, 1), func(x *api.Row) { x.Labels = []api.Label{} })) {
		t.Error("nil and empty labels are the same")
	}
}

func TestP9_2Sort(t *testing.T) {
	r := rand.New(rand.NewSource(1))
	for range 200 {
		var l []api.Row
		for i := range r.Intn(40) {
			x := row(r.Intn(3), r.Intn(3), r.Intn(2), r.Intn(2))
			x.Value = i
			l = append(l, x)
		}
		sorted := record.Sort(l)
		left := slices.Clone(l)
		for i, x := range sorted {
			if i > 0 {
				c := record.Compare(sorted[i-1], x)
				if c > 0 || c == 0 && sorted[i-1].Value > x.Value {
					t.Fatal("not in order, or not as they stood", sorted[i-1], x)
				}
			}
			k := slices.IndexFunc(left, func(y api.Row) bool { return record.Same(x, y) })
			if k < 0 {
				t.Fatal("made up", x)
			}
			left = slices.Delete(left, k, k+1)
		}
		if len(left) != 0 {
			t.Fatal("lost", left)
		}
	}
}

func TestP9_3Split(t *testing.T) {
	r := rand.New(rand.NewSource(2))
	for range 200 {
		var l []api.Row
		for i := range r.Intn(40) {
			labels := []api.Label{}
			for _, name := range []string{"a", "b", "c"} {
				if r.Intn(2) == 0 {
					labels = append(labels, api.Label{Name: name, Value: []string{"", "x", "}"}[r.Intn(3)]})
				}
			}
			l = append(l, api.Row{Record: log(r.Intn(50), "", labels...), Maker: 1, Seq: 1, Place: i})
		}
		window := 1 + r.Intn(20)
		by := []string{"c", "a", "zz"}[:r.Intn(4)]
		groups := record.Split(l, window, by...)
		var all []api.Row
		for i, g := range groups {
			if i > 0 && (g.Window < groups[i-1].Window || g.Window == groups[i-1].Window && g.Part <= groups[i-1].Part) {
				t.Fatal("not rising")
			}
			if len(g.Rows) == 0 || !same(g.Rows, record.Sort(g.Rows)) {
				t.Fatal("none, or not in order")
			}
			for _, x := range g.Rows {
				part, _ := label.Text(label.Part(x.Labels, by...))
				if x.Time/window != g.Window || part != g.Part {
					t.Fatal(x, "isn't of", g.Window, g.Part)
				}
			}
			all = append(all, g.Rows...)
		}
		if !same(record.Sort(all), record.Sort(l)) {
			t.Fatal("rows are lost or made up")
		}
	}
}

func TestP9_3Example(t *testing.T) {
	groups := record.Split([]api.Row{row(5, 1, 1, 0), row(12, 1, 1, 1), row(7, 1, 1, 2)}, 10)
	if len(groups) != 2 || groups[0].Window != 0 || groups[1].Window != 1 || groups[0].Part != "{}" || groups[1].Part != "{}" ||
		!same(groups[0].Rows, []api.Row{row(5, 1, 1, 0), row(7, 1, 1, 2)}) || !same(groups[1].Rows, []api.Row{row(12, 1, 1, 1)}) {
		t.Error(groups)
	}
	if len(record.Split(nil, 10, "a")) != 0 {
		t.Error("of nothing")
	}
	if l := record.Split([]api.Row{row(api.MaxNum-1, 1, 1, 0)}, math.MaxInt); len(l) != 1 || l[0].Window != 0 {
		t.Error("the greatest window", l)
	}
}

func TestP9_3Ends(t *testing.T) {
	wild := []api.Row{row(math.MinInt, -1, 0, 0), {Record: log(-5, "", api.Label{Name: "b"}, api.Label{Name: "A"}, api.Label{Name: "b"})}, {}}
	for _, window := range []int{0, -1, math.MinInt, math.MaxInt, 1, 3} {
		record.Split(wild, window, "b", "A")
	}
}

func TestP9_4Memory(t *testing.T) {
	b := api.Batch{Maker: 1, Seq: 1, Records: []api.Record{log(5, "a", api.Label{Name: "a", Value: "1"}), log(3, "b", api.Label{Name: "a", Value: "2"})}}
	l := record.Rows(b)
	l[0].Labels[0].Value = "9"
	if b.Records[0].Labels[0].Value != "1" {
		t.Error("Rows shares labels")
	}
	l = record.Rows(b)
	sorted := record.Sort(l)
	if l[0].Time != 5 {
		t.Error("Sort changes what is handed in")
	}
	sorted[0].Labels[0].Value = "9"
	sorted[0].Time = 9
	if l[1].Labels[0].Value != "2" || l[1].Time != 3 {
		t.Error("Sort shares memory")
	}
	by := []string{"b", "a"}
	groups := record.Split(l, 10, by[:1]...)
	if l[0].Time != 5 || by[1] != "a" {
		t.Error("Split changes what is handed in")
	}
	for i := range groups {
		for k := range groups[i].Rows {
			groups[i].Rows[k].Labels[0].Value = "9"
		}
		_ = append(groups[i].Rows, api.Row{})
	}
	if l[0].Labels[0].Value != "1" || l[1].Labels[0].Value != "2" {
		t.Error("Split shares labels")
	}
	if x := record.Sort(l[:1]); len(x) == 1 {
		_ = append(x, api.Row{Maker: 9})
		if l[1].Maker == 9 {
			t.Error("Sort shares spare room")
		}
	}
}
