package query_test

import (
	"bytes"
	"math"
	"math/rand"
	"slices"
	"strings"
	"testing"

	"entrepot/api"
	"entrepot/block"
	"entrepot/crc"
	"entrepot/label"
	"entrepot/nums"
	"entrepot/query"
	"entrepot/record"
)

func is(name, value string) api.Matcher {
	return api.Matcher{Name: name, Way: api.Is, Value: value}
}

func has(name string) api.Matcher { return api.Matcher{Name: name, Way: api.Has} }

func row(time int, labels ...api.Label) api.Row {
	return api.Row{Record: api.Record{Kind: api.Log, Time: time, Text: "t", Labels: labels}, Maker: 1, Seq: 1}
}

func same(a, b []api.Row) bool { return slices.EqualFunc(a, b, record.Same) }

// some rows in order, and a query.
func some(r *rand.Rand, n int) []api.Row {
	var l []api.Row
	for i := range n {
		x := row(r.Intn(100))
		x.Maker, x.Place = 1+r.Intn(9), i%64
		for _, name := range []string{"host", "svc"} {
			if r.Intn(3) > 0 {
				x.Labels = append(x.Labels, api.Label{Name: name, Value: []string{"db", "web", "w"}[r.Intn(3)]})
			}
		}
		l = append(l, x)
	}
	return slices.CompactFunc(record.Sort(l), func(a, b api.Row) bool { return record.Compare(a, b) == 0 })
}

func asked(r *rand.Rand) api.Query {
	q := api.Query{From: r.Intn(100), Limit: r.Intn(2) * r.Intn(20), Texts: r.Intn(2) == 0}
	q.To = q.From + r.Intn(50)
	for range r.Intn(3) {
		m := api.Matcher{Name: []string{"host", "svc", "x"}[r.Intn(3)], Way: 1 + r.Intn(4)}
		if m.Way != api.Has {
			m.Value = []string{"db", "web", "w", ""}[r.Intn(4)]
		}
		q.Match = append(q.Match, m)
	}
	return q
}

func TestP12_1Right(t *testing.T) {
	most := slices.Repeat([]api.Matcher{has("a")}, api.MaxMatch)
	for i, x := range []struct {
		q    api.Query
		want bool
	}{
		{api.Query{}, true}, {api.Query{From: api.MaxNum, To: api.MaxNum}, true}, {api.Query{To: api.MaxNum}, true}, {api.Query{To: api.MaxNum + 1}, false}, {api.Query{From: -1, To: 5}, false}, {api.Query{From: 6, To: 5}, false}, {api.Query{From: math.MinInt, To: math.MaxInt}, false}, {api.Query{To: math.MaxInt}, false},
		{api.Query{Limit: api.MaxRows}, true}, {api.Query{Limit: api.MaxRows + 1}, false}, {api.Query{Limit: -1}, false},
		{api.Query{Match: most}, true}, {api.Query{Match: append(slices.Clone(most), has("a"))}, false}, {api.Query{Match: []api.Matcher{has("a"), {}}}, false}, {api.Query{Match: []api.Matcher{is("A", "")}}, false}, {api.Query{Match: []api.Matcher{{Name: "a", Way: api.Has, Value: "x"}}}, false},
	} {
		if query.Right(x.q) != x.want {
			t.Error(i, x.q)
		}
	}
}

func TestP12_1Keeps(t *testing.T) {
	web := api.Label{Name: "svc", Value: "web"}
	q := api.Query{From: 5, To: 9, Match: []api.Matcher{is("svc", "web"), has("svc")}}
	for i, x := range []struct {
		q    api.Query
		x    api.Row
		want bool
	}{
		{q, row(5, web), true}, {q, row(8, web), true}, {q, row(4, web), false}, {q, row(9, web), false}, {q, row(5), false}, {q, row(5, api.Label{Name: "svc", Value: "db"}), false},
		{api.Query{From: 5, To: 5}, row(5), false}, {api.Query{To: 9}, row(5), true}, {api.Query{To: 9}, row(5, web, web), false}, {api.Query{From: 6, To: 5}, row(5), false}, {api.Query{To: 9, Limit: -1}, row(5), false},
		{api.Query{To: 9, Limit: 1}, row(5), true}, {api.Query{To: api.MaxNum}, row(api.MaxNum - 1), true}, {api.Query{To: api.MaxNum}, row(-1), false},
	} {
		if query.Keeps(x.q, x.x) != x.want {
			t.Error(i, x.q, x.x)
		}
	}
}

func TestP12_1Answer(t *testing.T) {
	r := rand.New(rand.NewSource(1))
	for range 500 {
		l, q := some(r, r.Intn(40)), asked(r)
		r.Shuffle(len(l), func(i, j int) { l[i], l[j] = l[j], l[i] })
		var want []api.Row
		for _, x := range record.Sort(l) {
			if query.Keeps(q, x) && (q.Limit == 0 || len(want) < q.Limit) {
				if !q.Texts {
					x.Text = ""
				}
				want = append(want, x)
			}
		}
		if got := query.Answer(q, l); !same(got, want) {
			t.Fatal(q, got, want)
		}
	}
	if l := query.Answer(api.Query{To: 99, Limit: 1, Texts: true}, []api.Row{row(9), row(1)}); !same(l, []api.Row{row(1)}) {
		t.Error("the example", l)
	}
	if l := query.Answer(api.Query{From: 5, To: 9, Texts: true}, []api.Row{row(1), row(5), row(9)}); !same(l, []api.Row{row(5)}) {
		t.Error("the example", l)
	}
	if l := query.Answer(api.Query{To: 99, Limit: -1}, []api.Row{row(1)}); len(l) != 0 {
		t.Error("a query that isn't right", l)
	}
}

func TestP12_2Groups(t *testing.T) {
	x := block.Index{
		Spans:    []block.Span{{First: 0, Last: 4}, {First: 5, Last: 5}, {First: 5, Last: 9}, {First: 10, Last: 12}, {First: 0, Last: 99}, {First: 0, Last: 99}},
		Postings: []block.Posting{{Text: "{}", Groups: []int{0, 1}}, {Text: `{svc="db"}`, Groups: []int{1, 2, 3, 77, -1}}, {Text: `{svc="web"}`, Groups: []int{3, 2, 2}}, {Text: `{svc="web"`, Groups: []int{4}}},
	}
	for i, y := range []struct {
		q    api.Query
		want []int
	}{
		{api.Query{To: api.MaxNum}, []int{0, 1, 2, 3}}, {api.Query{From: 5, To: 10}, []int{1, 2}}, {api.Query{From: 4, To: 5}, []int{0}}, {api.Query{From: 5, To: 6}, []int{1, 2}}, {api.Query{From: 9, To: 10}, []int{2}}, {api.Query{From: 9, To: 11}, []int{2, 3}}, {api.Query{From: 13, To: 99}, nil}, {api.Query{To: 0}, nil},
		{api.Query{To: 99, Match: []api.Matcher{is("svc", "web")}}, []int{2, 3}}, {api.Query{To: 99, Match: []api.Matcher{has("svc")}}, []int{1, 2, 3}}, {api.Query{To: 99, Match: []api.Matcher{{Name: "svc", Way: api.Not, Value: "db"}}}, []int{0, 1, 2, 3}}, {api.Query{To: 99, Match: []api.Matcher{is("svc", "web"), is("svc", "db")}}, nil},
		{api.Query{To: 99, Limit: -1}, nil}, {api.Query{From: 9, To: 5}, nil},
	} {
		if got := query.Groups(y.q, x); !slices.Equal(got, y.want) {
			t.Error(i, got, "not", y.want)
		}
	}
	if len(query.Groups(api.Query{To: 9}, block.Index{})) != 0 {
		t.Error("of nothing")
	}
}

func TestP12_2Wants(t *testing.T) {
	e := api.Entry{Part: `{svc="db"}`, First: 10, Last: 20}
	part := func(s string) api.Entry { return api.Entry{Part: s, Last: 9} }
	all := api.Query{To: 99}
	with := func(l ...api.Matcher) api.Query { return api.Query{To: 99, Match: l} }
	for i, x := range []struct {
		q    api.Query
		e    api.Entry
		want bool
	}{
		{all, e, true}, {api.Query{From: 20, To: 30}, e, true}, {api.Query{From: 21, To: 30}, e, false}, {api.Query{To: 10}, e, false}, {api.Query{To: 11}, e, true}, {api.Query{From: 15, To: 15}, e, true},
		{with(is("svc", "web")), e, false}, {with(is("svc", "db")), e, true}, {with(is("host", "a")), e, true}, {with(has("svc"), has("host")), e, true}, {with(has("svc"), is("svc", "d")), e, false},
		{with(api.Matcher{Name: "svc", Way: api.Not, Value: "db"}), e, false}, {with(api.Matcher{Name: "svc", Way: api.Not, Value: "web"}), e, true}, {with(api.Matcher{Name: "svc", Way: api.Begins, Value: "d"}), e, true}, {with(api.Matcher{Name: "svc", Way: api.Begins, Value: "w"}), e, false},
		{with(is("svc", "web")), part("{}"), true}, {all, part("{"), false}, {all, part(""), false}, {all, part(`{a="\41"}`), false}, {with(is("a", "1"), is("b", "2")), part(`{a="1",b="2"}`), true}, {with(is("b", "1")), part(`{a="1",b="2"}`), false},
		{api.Query{To: 99, Limit: -1}, e, false}, {api.Query{From: 30, To: 5}, e, false}, {with(api.Matcher{Name: "svc", Way: 9}), e, false},
	} {
		if query.Wants(x.q, x.e) != x.want {
			t.Error(i, x.q, x.e)
		}
	}
}

// blockOf is a block, where its index begins, and the index.
func blockOf(t *testing.T, l []api.Row, per int) ([]byte, int, block.Index) {
	b, e := block.Build(l, per)
	if e != api.OK {
		t.Fatal(e)
	}
	at, n, _ := block.Ends(b[len(b)-block.Tail:], len(b))
	x, _ := block.Foot(b[at : at+n])
	return b, at, x
}

func TestP12_3Scan(t *testing.T) {
	r := rand.New(rand.NewSource(2))
	for range 150 {
		l, q := some(r, 1+r.Intn(50)), asked(r)
		b, at, x := blockOf(t, l, 1+r.Intn(9))
		var want []api.Row
		for _, y := range l {
			if query.Keeps(q, y) {
				want = append(want, y)
			}
		}
		groups := query.Groups(q, x)
		got, n, e := query.Scan(q, b)
		if e != api.OK || n != len(groups) || !same(got, want) {
			t.Fatal(q, n, len(groups), e)
		}
		// Nothing else is looked at: all other bytes may be any.
		for i := range at {
			read := slices.ContainsFunc(groups, func(k int) bool { return i >= x.Spans[k].At && i < x.Spans[k].At+x.Spans[k].Size })
			if !read {
				b[i] ^= 0x5a
			}
		}
		if got, n, e := query.Scan(q, b); e != api.OK || n != len(groups) || !same(got, want) {
			t.Fatal("something else is looked at", e)
		}
		if len(groups) > 0 {
			s := x.Spans[groups[r.Intn(len(groups))]]
			b[s.At+r.Intn(s.Size)] ^= 1 << r.Intn(8)
			if got, n, e := query.Scan(q, b); e != api.ErrForm || n != 0 || len(got) != 0 {
				t.Fatal("a group isn't what it must be", n, e)
			}
		}
	}
}

// reworked is a block with another index behind the same groups.
func reworked(front []byte, x block.Index) []byte {
	put := func(b []byte, l ...int) []byte {
		for _, n := range l {
			b = append(b, nums.PutU(uint64(n))...)
		}
		return b
	}
	b := put(nil, len(x.Spans))
	for _, s := range x.Spans {
		b = put(b, s.At, s.Size, s.Rows, s.First, s.Last)
	}
	b = put(b, len(x.Postings))
	for _, p := range x.Postings {
		b = append(put(b, len(p.Text)), p.Text...)
		b = put(put(b, len(p.Groups)), p.Groups...)
	}
	b = crc.Seal(b)
	n := len(b)
	return slices.Concat(front, b, []byte{byte(n), byte(n >> 8), 0, 0}, []byte("ENTR"))
}

func TestP12_3Errors(t *testing.T) {
	q := api.Query{To: 5}
	b, at, x := blockOf(t, []api.Row{row(1), row(2), row(9)}, 1)
	check := func(name string, q api.Query, b []byte, want api.Errno) {
		t.Helper()
		if l, n, e := query.Scan(q, b); e != want || e != api.OK && (n != 0 || len(l) != 0) {
			t.Error(name, len(l), n, e)
		}
	}
	check("right", q, b, api.OK)
	check("a query that isn't right", api.Query{From: 9, To: 1}, b, api.ErrArg)
	check("nor the block", api.Query{Limit: -1}, nil, api.ErrArg)
	check("nothing", q, nil, api.ErrForm)
	check("less than a tail", q, b[len(b)-7:], api.ErrForm)
	check("no tail", q, b[:len(b)-1], api.ErrForm)
	check("no room", q, b[len(b)-8:], api.ErrForm)
	bad := bytes.Clone(b)
	bad[at] ^= 1
	check("the index's sum", q, bad, api.ErrForm)
	change := func(f func(*block.Index)) []byte {
		y := block.Index{Spans: slices.Clone(x.Spans), Postings: slices.Clone(x.Postings)}
		f(&y)
		return reworked(b[:at], y)
	}
	check("the same", q, change(func(*block.Index) {}), api.OK)
	check("beyond the index", q, change(func(x *block.Index) { x.Spans[1].Size = at - x.Spans[1].At + 1 }), api.ErrForm)
	check("far beyond", q, change(func(x *block.Index) { x.Spans[1] = block.Span{At: api.MaxData, Size: api.MaxData} }), api.ErrForm)
	check("one that isn't read is beyond the index", q, change(func(x *block.Index) { x.Spans[2].Size = api.MaxData }), api.OK)
	check("no group", q, change(func(x *block.Index) { x.Spans[0].At++ }), api.ErrForm)
	check("bytes left", q, reworked(b[:at], block.Index{Spans: make([]block.Span, 1), Postings: []block.Posting{{Text: strings.Repeat("x", 1025)}}}), api.ErrForm)
}

func TestP12_4NothingIsLost(t *testing.T) {
	r := rand.New(rand.NewSource(3))
	for range 2000 {
		l, q := some(r, 1+r.Intn(10)), asked(r)
		for _, by := range [][]string{nil, {"svc"}, {"host", "svc"}} {
			for _, g := range record.Split(l, 10, by...) {
				e := api.Entry{Part: g.Part, First: g.Rows[0].Time, Last: g.Rows[len(g.Rows)-1].Time}
				for _, x := range g.Rows {
					if query.Keeps(q, x) && !query.Wants(q, e) {
						t.Fatal(q, x, e)
					}
				}
			}
		}
		text := func(x api.Row) string { s, _ := label.Text(x.Labels); return s }
		var index block.Index
		for i, x := range l {
			index.Spans = append(index.Spans, block.Span{First: x.Time, Last: x.Time})
			index.Postings = append(index.Postings, block.Posting{Text: text(x), Groups: []int{i}})
		}
		groups := query.Groups(q, index)
		for i, x := range l {
			if query.Keeps(q, x) && !slices.Contains(groups, i) {
				t.Fatal(q, x)
			}
		}
	}
}

func TestP12_5Memory(t *testing.T) {
	l := []api.Row{row(9, api.Label{Name: "a", Value: "1"}), row(1, api.Label{Name: "a", Value: "2"}), row(2)}
	q := api.Query{To: 99}
	got := query.Answer(q, l[:2])
	got[0].Labels[0].Value = "9"
	got[1].Labels[0].Value = "9"
	_ = append(got, row(77))
	if l[0].Time != 9 || l[0].Labels[0].Value != "1" || l[1].Labels[0].Value != "2" || l[0].Text != "t" || l[2].Time != 2 {
		t.Error("Answer changes what is handed in")
	}
	b, _, x := blockOf(t, record.Sort(l), 1)
	kept := bytes.Clone(b)
	rows, _, _ := query.Scan(q, b)
	rows[0].Labels[0].Value = "9"
	query.Groups(q, x)
	if !bytes.Equal(b, kept) {
		t.Error("Scan changes what is handed in")
	}
	one, two := query.Answer(q, l), query.Answer(q, l)
	one[0].Labels[0].Value, one[1].Time = "8", 8
	if two[0].Labels[0].Value != "2" || two[1].Time == 8 {
		t.Error("answers share memory")
	}
}
