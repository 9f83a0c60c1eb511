package reader_test

import (
	"fmt"
	"math/rand"
	"slices"
	"testing"

	"entrepot/api"
	"entrepot/block"
	"entrepot/manifest"
	"entrepot/merge"
	"entrepot/query"
	"entrepot/reader"
	"entrepot/record"
	"entrepot/store"
)

func conf() api.Conf {
	return api.Conf{Window: 10, Group: 2, Buffer: 9, Flush: 9, Piece: 100, Tries: 3, Wait: 2, Small: 4, Most: 6}
}

func row(time, place int, labels ...api.Label) api.Row {
	return api.Row{Record: api.Record{Kind: api.Log, Time: time, Text: "x", Labels: labels}, Maker: 1, Seq: 1, Place: place}
}

func svc(value string) api.Label { return api.Label{Name: "svc", Value: value} }

func same(a, b []api.Row) bool { return slices.EqualFunc(a, b, record.Same) }

// current is the manifest in a store.
func current(s *store.Store) api.Manifest {
	m, _ := manifest.Decode(s.Do(api.Call{Kind: api.Get, Key: api.ManifestKey}).Data)
	return m
}

// keep puts a manifest into a store.
func keep(s *store.Store, m api.Manifest) {
	b, e := manifest.Encode(m)
	if e != api.OK {
		panic("it isn't right")
	}
	s.Do(api.Call{Kind: api.Put, Key: api.ManifestKey, Data: b})
}

// fill lays rows into blocks by windows of 10 and by svc, with per rows a group, and a manifest of generation 7 that names them.
func fill(s *store.Store, l []api.Row, per int) {
	m := api.Manifest{Gen: 7}
	for i, g := range record.Split(l, 10, "svc") {
		b, e := block.Build(g.Rows, per)
		if e != api.OK {
			panic("no block")
		}
		key := fmt.Sprintf("b/%02d", i)
		s.Do(api.Call{Kind: api.Put, Key: key, Data: b})
		m.Entries = append(m.Entries, merge.Entry(key, g.Window, g.Part, g.Rows, b, 0))
	}
	keep(s, m)
}

// asks asks, and tells the calls until the answer is there; what reply tells comes in the place of the store's.
func asks(t *testing.T, a *reader.Reader, s *store.Store, q api.Query, reply func(api.Call) (api.Reply, bool)) (api.Answer, []api.Call) {
	t.Helper()
	if e := a.Ask(q); e != api.OK {
		t.Fatal(e)
	}
	var l []api.Call
	for range 3000 {
		if a.Idle() {
			got := a.Answers()
			if len(got) != 1 || len(a.Answers()) != 0 {
				t.Fatal("answers", got)
			}
			return got[0], l
		}
		c, ok := a.Next(s.Now())
		if !ok {
			s.Tick(1)
			continue
		}
		if c, ok := a.Next(s.Now() + 999); ok || c.Kind != 0 {
			t.Fatal("a second call")
		}
		if a.Ask(q) != api.ErrBusy || len(a.Answers()) != 0 {
			t.Fatal("one is under way")
		}
		l = append(l, c)
		r, other := api.Reply{}, false
		if reply != nil {
			r, other = reply(c)
		}
		if !other {
			r = s.Do(c)
		}
		if a.Take(r, s.Now()) != api.OK || a.Take(r, s.Now()) != api.ErrArg {
			t.Fatal("a reply")
		}
	}
	t.Fatal("it doesn't end")
	return api.Answer{}, nil
}

func expect(t *testing.T, name string, got api.Answer, e api.Errno, gen int, rows ...api.Row) {
	t.Helper()
	if got.Err != e || got.Gen != gen || !same(got.Rows, rows) {
		t.Errorf("%s: %d, %d, %v; not %d, %d, %v", name, got.Err, got.Gen, got.Rows, e, gen, rows)
	}
}

var all = api.Query{To: api.MaxNum, Texts: true}

func TestP23_1New(t *testing.T) {
	if reader.New(api.Conf{}) != nil {
		t.Error("it doesn't fit")
	}
	a := reader.New(conf())
	if a == nil {
		t.Fatal("it fits")
	}
	if c, ok := a.Next(0); ok || c.Kind != 0 || !a.Idle() || len(a.Answers()) != 0 || a.Take(api.Reply{}, 0) != api.ErrArg {
		t.Error("it has a query")
	}
	var none *reader.Reader
	c, ok := none.Next(0)
	if none.Ask(all) != api.ErrArg || ok || c.Kind != 0 || none.Take(api.Reply{}, 0) != api.ErrArg || len(none.Answers()) != 0 || !none.Idle() {
		t.Error("a nil one")
	}
}

func TestP23_1Ask(t *testing.T) {
	a := reader.New(conf())
	bad := api.Query{From: 9, To: 1}
	if a.Ask(bad) != api.ErrArg || !a.Idle() {
		t.Error("it isn't right")
	}
	if a.Ask(all) != api.OK || a.Idle() || a.Ask(all) != api.ErrBusy || a.Ask(bad) != api.ErrArg {
		t.Error("one is under way")
	}
}

func TestP23_1NoBlocks(t *testing.T) {
	s := store.New()
	a := reader.New(conf())
	got, l := asks(t, a, s, all, nil)
	expect(t, "no manifest", got, api.OK, 0)
	if len(l) != 1 || l[0].Kind != api.Get || l[0].Key != api.ManifestKey {
		t.Error("its calls", l)
	}
	fill(s, []api.Row{row(5, 0), row(15, 1)}, 9)
	got, l = asks(t, a, s, api.Query{From: 20, To: 30}, nil)
	expect(t, "no entry is wanted", got, api.OK, 7)
	if len(l) != 1 {
		t.Error("its calls", l)
	}
	s.Do(api.Call{Kind: api.Put, Key: api.ManifestKey, Data: []byte("no manifest")})
	got, _ = asks(t, a, s, all, nil)
	expect(t, "it is no manifest", got, api.ErrForm, 0)
}

func TestP23_1Calls(t *testing.T) {
	s := store.New()
	l := []api.Row{row(1, 0, svc("db")), row(2, 1, svc("web")), row(5, 2, svc("web")), row(7, 3, svc("web")), row(8, 4, svc("web")), row(12, 5, svc("web"))}
	fill(s, l, 1)
	q := api.Query{From: 4, To: 12, Match: []api.Matcher{{Name: "svc", Way: api.Is, Value: "web"}}, Texts: true}
	got, calls := asks(t, reader.New(conf()), s, q, nil)
	expect(t, "its rows", got, api.OK, 7, l[2], l[3], l[4])
	e := current(s).Entries[1]
	data := s.Do(api.Call{Kind: api.Get, Key: e.Key}).Data
	at, n, _ := block.Ends(data[len(data)-8:], len(data))
	x, _ := block.Foot(data[at : at+n])
	want := []api.Call{
		{Kind: api.Get, Key: api.ManifestKey}, {Kind: api.Range, Key: e.Key, At: e.Size - 8, N: 8}, {Kind: api.Range, Key: e.Key, At: at, N: n},
		{Kind: api.Range, Key: e.Key, At: x.Spans[1].At, N: x.Spans[1].Size}, {Kind: api.Range, Key: e.Key, At: x.Spans[2].At, N: x.Spans[2].Size}, {Kind: api.Range, Key: e.Key, At: x.Spans[3].At, N: x.Spans[3].Size},
	}
	if fmt.Sprint(calls) != fmt.Sprint(want) {
		t.Error(calls, "not", want)
	}
	got, calls = asks(t, reader.New(conf()), s, api.Query{From: 3, To: 5, Match: []api.Matcher{{Name: "host", Way: api.Has}}}, nil)
	expect(t, "no group is to be read", got, api.OK, 7)
	if len(calls) != 3 {
		t.Error("its calls", calls)
	}
}

func TestP23_1WrongPieces(t *testing.T) {
	l := []api.Row{row(1, 0), row(2, 1), row(3, 2)}
	build := func() (*store.Store, []byte, int, api.Entry) {
		s := store.New()
		fill(s, l, 1)
		e := current(s).Entries[0]
		data := s.Do(api.Call{Kind: api.Get, Key: e.Key}).Data
		at, _, _ := block.Ends(data[len(data)-8:], len(data))
		return s, data, at, e
	}
	for i, change := range []func([]byte, int){
		func(b []byte, _ int) { b[len(b)-1] = 'r' }, func(b []byte, _ int) { b[len(b)-6] = 9 }, func(b []byte, at int) { b[at] ^= 1 }, func(b []byte, at int) { b[at-3] ^= 1 }, func(b []byte, _ int) { b[9] ^= 1 },
	} {
		s, data, at, e := build()
		change(data, at)
		s.Do(api.Call{Kind: api.Put, Key: e.Key, Data: data})
		got, calls := asks(t, reader.New(conf()), s, all, nil)
		expect(t, fmt.Sprint("a wrong piece ", i), got, api.ErrForm, 7)
		if want := []int{2, 2, 3, 6, 4}[i]; len(calls) != want {
			t.Error("it reads on", i, len(calls))
		}
	}
	s, data, _, e := build()
	data[9] ^= 1
	s.Do(api.Call{Kind: api.Put, Key: e.Key, Data: data})
	got, _ := asks(t, reader.New(conf()), s, api.Query{From: 2, To: 9, Texts: true}, nil)
	expect(t, "one that isn't looked at", got, api.OK, 7, l[1], l[2])
	m := current(s)
	m.Entries[0].Size = 5
	keep(s, m)
	got, _ = asks(t, reader.New(conf()), s, all, nil)
	expect(t, "ahead of the beginning", got, api.ErrRange, 7)
	m.Entries[0].Size = e.Size + 1
	keep(s, m)
	got, _ = asks(t, reader.New(conf()), s, all, nil)
	expect(t, "beyond the end", got, api.ErrRange, 7)
	m.Entries[0].Size = e.Size - 1
	keep(s, m)
	got, _ = asks(t, reader.New(conf()), s, all, nil)
	expect(t, "no tail", got, api.ErrForm, 7)
}

func TestP23_1BeyondTheIndex(t *testing.T) {
	// A block whose tail tells more bytes of index than it has: its last group reaches into these.
	one, _ := block.Build([]api.Row{row(1, 0)}, 1)
	s := store.New()
	fill(s, []api.Row{row(1, 0)}, 1)
	at, n, _ := block.Ends(one[len(one)-8:], len(one))
	asked := 0
	got, _ := asks(t, reader.New(conf()), s, all, func(c api.Call) (api.Reply, bool) {
		if c.Kind != api.Range {
			return api.Reply{}, false
		}
		asked++
		if asked == 1 {
			m := n + 1
			return api.Reply{Data: []byte{byte(m), byte(m >> 8), 0, 0, 'E', 'N', 'T', 'R'}}, true
		}
		if asked == 2 {
			if c.At != at-1 || c.N != n+1 {
				t.Error("the index that the tail tells", c)
			}
			return api.Reply{Data: one[at : at+n]}, true
		}
		return api.Reply{}, false
	})
	expect(t, "beyond the index", got, api.ErrForm, 7)
	if asked != 2 {
		t.Error("it is asked ahead of the groups", asked)
	}
}

func TestP23_1OtherReplies(t *testing.T) {
	s := store.New()
	l := []api.Row{row(1, 0), row(12, 1)}
	fill(s, l, 1)
	for n := range 7 {
		for _, e := range []api.Errno{api.ErrArg, api.ErrForm, api.ErrVer, api.ErrRange, api.ErrNone, 99} {
			calls, want, gen := 0, e, 7
			got, _ := asks(t, reader.New(conf()), s, all, func(api.Call) (api.Reply, bool) {
				calls++
				return api.Reply{Err: e}, calls == n+1
			})
			if n == 0 {
				gen = 0
			}
			switch {
			case e == api.ErrNone && n == 0:
				want = api.OK
			case e == api.ErrNone:
				want = api.ErrExpired
			}
			expect(t, fmt.Sprint("call ", n, " error ", int(e)), got, want, gen)
		}
	}
}

func TestP23_1Failures(t *testing.T) {
	s := store.New()
	l := []api.Row{row(1, 0), row(12, 1)}
	fill(s, l, 1)
	for n := range 7 {
		for _, e := range []api.Errno{api.ErrNet, api.ErrFull} {
			calls := 0
			begin := s.Now()
			got, made := asks(t, reader.New(conf()), s, all, func(api.Call) (api.Reply, bool) {
				calls++
				return api.Reply{Err: e}, calls == n+1 || calls == n+2
			})
			expect(t, "it goes on", got, api.OK, 7, l...)
			if len(made) != 9 || fmt.Sprint(made[n]) != fmt.Sprint(made[n+1]) || fmt.Sprint(made[n]) != fmt.Sprint(made[n+2]) || s.Now() != begin+2+4 {
				t.Error("the same call again", n, len(made), s.Now()-begin)
			}
			calls = 0
			begin = s.Now()
			got, made = asks(t, reader.New(conf()), s, all, func(api.Call) (api.Reply, bool) {
				calls++
				return api.Reply{Err: e}, calls > n
			})
			gen := 7
			if n == 0 {
				gen = 0
			}
			expect(t, "given up", got, api.ErrFailed, gen)
			if len(made) != n+3 || s.Now() != begin+2+4 {
				t.Error("the failure number Tries", len(made), s.Now()-begin)
			}
		}
	}
	// Failures are counted altogether, but of one query.
	a := reader.New(conf())
	for range 3 {
		calls := 0
		got, _ := asks(t, a, s, all, func(api.Call) (api.Reply, bool) {
			calls++
			return api.Reply{Err: api.ErrNet}, calls == 1 || calls == 4
		})
		expect(t, "two failures", got, api.OK, 7, l...)
	}
	calls := 0
	got, _ := asks(t, a, s, all, func(api.Call) (api.Reply, bool) {
		calls++
		return api.Reply{Err: api.ErrFull}, calls%2 == 1
	})
	expect(t, "three failures", got, api.ErrFailed, 7)
}

func TestP23_1Answers(t *testing.T) {
	s := store.New()
	a := reader.New(conf())
	for i := range 3 {
		fill(s, []api.Row{row(i, i)}, 1)
		a.Ask(all)
		for !a.Idle() {
			c, _ := a.Next(0)
			a.Take(s.Do(c), 0)
		}
	}
	l := a.Answers()
	if len(l) != 3 || len(a.Answers()) != 0 {
		t.Fatal(l)
	}
	for i, x := range l {
		expect(t, "in order", x, api.OK, 7, row(i, i))
	}
}

func TestP23_2Whole(t *testing.T) {
	r := rand.New(rand.NewSource(1))
	for range 200 {
		s := store.New()
		var l []api.Row
		for i := range 1 + r.Intn(40) {
			x := row(r.Intn(50), i)
			if r.Intn(3) > 0 {
				x.Labels = []api.Label{svc([]string{"db", "web", ""}[r.Intn(3)])}
			}
			l = append(l, x)
		}
		fill(s, l, 1+r.Intn(5))
		a := reader.New(conf())
		for range 5 {
			q := api.Query{From: r.Intn(50), Limit: r.Intn(2) * r.Intn(9), Texts: r.Intn(2) == 0}
			q.To = q.From + r.Intn(50)
			if r.Intn(2) == 0 {
				q.Match = []api.Matcher{{Name: "svc", Way: 1 + r.Intn(3), Value: []string{"db", "we", "web", ""}[r.Intn(4)]}}
			}
			bad := r.Intn(2) * 12
			got, _ := asks(t, a, s, q, func(api.Call) (api.Reply, bool) {
				return api.Reply{Err: api.ErrNet}, bad > 0 && r.Intn(bad) == 0
			})
			if got.Err == api.OK {
				expect(t, "its rows", got, api.OK, 7, query.Answer(q, l)...)
			} else if got.Err != api.ErrFailed || len(got.Rows) != 0 {
				t.Fatal(got)
			}
		}
	}
}

func TestP23_2Gone(t *testing.T) {
	s := store.New()
	fill(s, []api.Row{row(1, 0), row(12, 1)}, 1)
	for n := 1; n < 7; n++ {
		c := s.Copy()
		calls := 0
		got, _ := asks(t, reader.New(conf()), c, all, func(api.Call) (api.Reply, bool) {
			if calls++; calls == n+1 {
				// What goes once it was read doesn't matter any more.
				c.Do(api.Call{Kind: api.Delete, Key: "b/00"})
			}
			return api.Reply{}, false
		})
		if n <= 3 {
			expect(t, "it has gone", got, api.ErrExpired, 7)
		} else {
			expect(t, "it was read", got, api.OK, 7, row(1, 0), row(12, 1))
		}
	}
}

func TestP23_3Memory(t *testing.T) {
	s := store.New()
	l := []api.Row{row(1, 0, svc("web")), row(2, 1, svc("web"))}
	fill(s, l, 1)
	a := reader.New(conf())
	q := api.Query{To: 9, Match: []api.Matcher{{Name: "svc", Way: api.Is, Value: "web"}}, Texts: true}
	a.Ask(q)
	q.Match[0].Value = "db"
	for !a.Idle() {
		c, _ := a.Next(0)
		r := s.Do(c)
		a.Take(r, 0)
		for i := range r.Data {
			r.Data[i] = 0
		}
	}
	got := a.Answers()
	expect(t, "what is handed in isn't kept", got[0], api.OK, 7, l...)
	got[0].Rows[0].Labels[0].Value = "x"
	again, _ := asks(t, a, s, all, nil)
	expect(t, "answers are new", again, api.OK, 7, l...)
}
