package compact_test

import (
	"fmt"
	"math"
	"math/rand"
	"slices"
	"testing"

	"entrepot/api"
	"entrepot/block"
	"entrepot/compact"
	"entrepot/manifest"
	"entrepot/merge"
	"entrepot/record"
	"entrepot/store"
)

func conf() api.Conf {
	return api.Conf{Window: 10, Group: 2, Buffer: 9, Flush: 9, Piece: 100, Tries: 3, Wait: 2, Small: 4, Most: 6}
}

// rows are so many of one maker, at these times.
func rows(maker int, times ...int) []api.Row {
	var l []api.Row
	for i, time := range times {
		l = append(l, api.Row{Record: api.Record{Kind: api.Log, Time: time, Text: "x"}, Maker: maker, Seq: 1, Place: i})
	}
	return l
}

// current is the manifest in a store.
func current(s *store.Store) api.Manifest {
	m, _ := manifest.Decode(s.Do(api.Call{Kind: api.Get, Key: api.ManifestKey}).Data)
	return m
}

// keep puts a manifest into a store.
func keep(s *store.Store, m api.Manifest) {
	b, e := manifest.Encode(m)
	if e != api.OK {
		panic("it isn't right")
	}
	s.Do(api.Call{Kind: api.Put, Key: api.ManifestKey, Data: b})
}

// add puts a block into a store, and into its manifest.
func add(s *store.Store, key string, window int, l []api.Row) {
	b, e := block.Build(l, 3)
	if e != api.OK {
		panic("no block")
	}
	born := s.Do(api.Call{Kind: api.Put, Key: key, Data: b}).Born
	m := current(s)
	m.Entries = append(m.Entries, merge.Entry(key, window, "{}", l, b, born))
	slices.SortFunc(m.Entries, func(a, b api.Entry) int {
		if a.Key < b.Key {
			return -1
		}
		return 1
	})
	keep(s, m)
}

// all are the rows that the manifest names.
func all(s *store.Store) []api.Row {
	var l []api.Row
	for _, e := range current(s).Entries {
		rows, err := block.Read(s.Do(api.Call{Kind: api.Get, Key: e.Key}).Data)
		if err != api.OK || len(rows) != e.Rows {
			panic("a block isn't there")
		}
		l = append(l, rows...)
	}
	return record.Sort(l)
}

func same(a, b []api.Row) bool { return slices.EqualFunc(a, b, record.Same) }

// round lets a compactor go one round, and tells its calls; what reply tells comes in the place of the store's.
func round(t *testing.T, a *compact.Compactor, s *store.Store, reply func(api.Call) (api.Reply, bool)) []api.Call {
	t.Helper()
	var l []api.Call
	n := a.Rounds()
	if !a.Idle() {
		t.Fatal("a round is under way")
	}
	for range 500 {
		c, ok := a.Next(s.Now())
		if !ok {
			s.Tick(1)
			continue
		}
		if a.Idle() || a.Rounds() != n {
			t.Fatal("it is idle in a round")
		}
		if c, ok := a.Next(s.Now() + 99); ok || c.Kind != 0 {
			t.Fatal("a second call", c)
		}
		l = append(l, c)
		r, other := api.Reply{}, false
		if reply != nil {
			r, other = reply(c)
		}
		if !other {
			r = s.Do(c)
		}
		if e := a.Take(r, s.Now()); e != api.OK {
			t.Fatal(e)
		}
		if a.Take(r, s.Now()) != api.ErrArg {
			t.Fatal("none is waited for")
		}
		if a.Rounds() == n+1 {
			if !a.Idle() {
				t.Fatal("it isn't idle between two rounds")
			}
			return l
		}
	}
	t.Fatal("the round doesn't end")
	return nil
}

func kinds(l []api.Call) []int {
	var k []int
	for _, c := range l {
		k = append(k, c.Kind)
	}
	return k
}

func TestP20_1New(t *testing.T) {
	for _, x := range []struct {
		agent, life int
		c           api.Conf
		ok          bool
	}{
		{1, 1, conf(), true}, {api.MaxAgents, api.MaxNum - 1, conf(), true}, {0, 1, conf(), false}, {api.MaxAgents + 1, 1, conf(), false}, {1, 0, conf(), false}, {1, api.MaxNum, conf(), false}, {math.MinInt, math.MaxInt, conf(), false}, {1, 1, api.Conf{}, false},
	} {
		a := compact.New(x.agent, x.life, x.c)
		if (a != nil) != x.ok {
			t.Error(x)
		}
		if a != nil && (a.Rounds() != 0 || a.Merged() != 0 || !a.Idle() || a.Take(api.Reply{}, 0) != api.ErrArg) {
			t.Error("ahead of its first round")
		}
	}
}

func TestP20_1Nil(t *testing.T) {
	var a *compact.Compactor
	c, ok := a.Next(1)
	if c.Kind != 0 || ok || a.Take(api.Reply{}, 1) != api.ErrArg || a.Rounds() != 0 || a.Merged() != 0 || !a.Idle() {
		t.Error("a nil compactor")
	}
}

func TestP20_1Nothing(t *testing.T) {
	s := store.New()
	a := compact.New(2, 3, conf())
	get := []int{api.Get}
	if l := round(t, a, s, nil); !slices.Equal(kinds(l), get) || l[0].Key != api.ManifestKey {
		t.Error("no manifest", l)
	}
	s.Do(api.Call{Kind: api.Put, Key: api.ManifestKey, Data: []byte("none")})
	if l := round(t, a, s, nil); !slices.Equal(kinds(l), get) {
		t.Error("it is no manifest", l)
	}
	keep(s, api.Manifest{})
	add(s, "b/1", 0, rows(1, 1, 2, 3))
	add(s, "b/2", 1, rows(2, 11))
	add(s, "b/3", 0, rows(3, 1, 2, 3, 4))
	for range 2 {
		if l := round(t, a, s, nil); !slices.Equal(kinds(l), get) {
			t.Error("no small blocks", l)
		}
	}
	for _, e := range []api.Errno{api.ErrNet, api.ErrFull, api.ErrNone, api.ErrArg} {
		if l := round(t, a, s, func(api.Call) (api.Reply, bool) { return api.Reply{Err: e}, true }); !slices.Equal(kinds(l), get) {
			t.Error("any Err", l)
		}
	}
	if a.Merged() != 0 {
		t.Error("Merged", a.Merged())
	}
}

func TestP20_1Round(t *testing.T) {
	s := store.New()
	add(s, "b/1", 0, rows(1, 1, 5))
	s.Tick(1)
	add(s, "b/0", 0, rows(2, 3, 4, 9))
	s.Tick(1)
	add(s, "b/2", 0, rows(3, 7, 8))
	s.Tick(1)
	add(s, "b/3", 0, rows(4, 2))
	add(s, "b/4", 1, rows(5, 12))
	s.Tick(3)
	before := all(s)
	a := compact.New(2, 3, conf())
	l := round(t, a, s, nil)
	want := []int{api.Get, api.Get, api.Get, api.Get, api.Create}
	if !slices.Equal(kinds(l)[:5], want) || l[1].Key != "b/1" || l[2].Key != "b/0" || l[3].Key != "b/3" || l[4].Key != "b/2.3.1" {
		t.Error("its calls", l)
	}
	if k := kinds(l); !slices.Equal(k[len(k)-3:], []int{api.Complete, api.Get, api.PutIf}) {
		t.Error("its calls", k)
	}
	m := current(s)
	e, ok := manifest.Find(m, "b/2.3.1")
	if !ok || e.Window != 0 || e.Part != "{}" || e.Rows != 6 || e.First != 1 || e.Last != 9 || e.Born != 6 || len(m.Entries) != 3 || !slices.Equal(m.Owners, []api.Owner{{Agent: 2, Life: 3, Count: 1}}) || len(m.Marks) != 0 {
		t.Error("the manifest", m)
	}
	merged := record.Sort(slices.Concat(rows(1, 1, 5), rows(2, 3, 4, 9), rows(4, 2)))
	b, _ := block.Build(merged, 2)
	if r := s.Do(api.Call{Kind: api.Get, Key: "b/2.3.1"}); string(r.Data) != string(b) || e != merge.Entry("b/2.3.1", 0, "{}", merged, b, 6) {
		t.Error("the block", e)
	}
	if !same(all(s), before) || a.Merged() != 1 {
		t.Error("the rows", a.Merged())
	}
	if l := round(t, a, s, nil); len(l) != 1 {
		t.Error("nothing is left", l)
	}
	add(s, "b/5", 1, rows(6, 13))
	if l := round(t, a, s, nil); l[3].Key != "b/2.3.2" || current(s).Owners[0].Count != 2 || a.Merged() != 2 || a.Rounds() != 3 {
		t.Error("the second one", l)
	}
}

// two small blocks in a store, and a compactor.
func two() (*compact.Compactor, *store.Store) {
	s := store.New()
	s.Tick(1)
	add(s, "b/1", 0, rows(1, 1))
	add(s, "b/2", 0, rows(2, 2))
	return compact.New(2, 3, conf()), s
}

func TestP20_1BlocksThatArent(t *testing.T) {
	good, _ := block.Build(rows(1, 1), 3)
	turned := slices.Clone(good)
	turned[9] ^= 1
	for i, data := range [][]byte{nil, good[1:], append(slices.Clone(good), 0), turned, []byte("no block")} {
		a, s := two()
		s.Do(api.Call{Kind: api.Put, Key: "b/1", Data: data})
		if l := round(t, a, s, nil); !slices.Equal(kinds(l), []int{api.Get, api.Get}) || a.Merged() != 0 {
			t.Error("Size or Sum", i, l)
		}
	}
	// The second one is a block of the same size: its Seq has a byte more, its Text one less.
	swapped := rows(1, 1)
	swapped[0].Seq, swapped[0].Text = 64, ""
	for i, l := range [][]api.Row{rows(1, 1, 2), swapped} {
		a, s := two()
		other, _ := block.Build(l, 3)
		if i == 1 && len(other) != len(good) {
			t.Error("the sizes", len(other), len(good))
		}
		s.Do(api.Call{Kind: api.Put, Key: "b/1", Data: other})
		before := current(s)
		if k := kinds(round(t, a, s, nil)); !slices.Equal(k, []int{api.Get, api.Get}) || current(s).Gen != before.Gen {
			t.Error("another block", i, k)
		}
	}
	a, s := two()
	m := current(s)
	other := []byte("no block")
	s.Do(api.Call{Kind: api.Put, Key: "b/2", Data: other})
	m.Entries[1] = merge.Entry("b/2", 0, "{}", rows(2, 2), other, 1)
	keep(s, m)
	if l := round(t, a, s, nil); !slices.Equal(kinds(l), []int{api.Get, api.Get, api.Get}) {
		t.Error("no block", l)
	}
	a, s = two()
	s.Do(api.Call{Kind: api.Delete, Key: "b/2"})
	if l := round(t, a, s, nil); !slices.Equal(kinds(l), []int{api.Get, api.Get, api.Get}) {
		t.Error("it is gone", l)
	}
	a, s = two()
	add(s, "b/3", 0, rows(1, 1))
	if l := round(t, a, s, nil); !slices.Equal(kinds(l), []int{api.Get, api.Get, api.Get, api.Get}) {
		t.Error("the same row twice", l)
	}
	for _, e := range []api.Errno{api.ErrNet, api.ErrFull, api.ErrArg} {
		a, s = two()
		l := round(t, a, s, func(c api.Call) (api.Reply, bool) { return api.Reply{Err: e}, c.Key == "b/1" })
		if !slices.Equal(kinds(l), []int{api.Get, api.Get}) {
			t.Error("any Err", l)
		}
	}
}

func TestP20_1UploadFails(t *testing.T) {
	a, s := two()
	before := all(s)
	for i := range 2 {
		l := round(t, a, s, func(c api.Call) (api.Reply, bool) { return api.Reply{Err: api.ErrNet}, c.Kind == api.Create })
		if !slices.Equal(kinds(l), []int{api.Get, api.Get, api.Get, api.Create, api.Create, api.Create}) || l[3].Key != fmt.Sprint("b/2.3.", i+1) {
			t.Error("it fails", l)
		}
	}
	if l := round(t, a, s, nil); l[3].Key != "b/2.3.3" || current(s).Owners[0].Count != 1 || a.Merged() != 1 || a.Rounds() != 3 || !same(all(s), before) {
		t.Error("the next one", l)
	}
}

func TestP20_1CommitEnds(t *testing.T) {
	a, s := two()
	before := all(s)
	round(t, a, s, func(c api.Call) (api.Reply, bool) { return api.Reply{Err: api.ErrArg}, c.Kind == api.PutIf })
	if a.Merged() != 0 || a.Rounds() != 1 || !same(all(s), before) {
		t.Error("Failed")
	}
	gets := 0
	round(t, a, s, func(c api.Call) (api.Reply, bool) {
		if c.Key == api.ManifestKey && c.Kind == api.Get {
			gets++
		}
		if gets == 2 {
			// Another one drops a block ahead of the commit.
			m, _ := manifest.Apply(current(s), api.Edit{Drop: []string{"b/2"}, By: api.Owner{Agent: 7, Life: 1, Count: 1}})
			keep(s, m)
			gets++
		}
		return api.Reply{}, false
	})
	if a.Merged() != 0 || a.Rounds() != 2 || len(current(s).Entries) != 1 {
		t.Error("Refused", a.Merged(), a.Rounds())
	}
	add(s, "b/3", 0, rows(3, 3))
	silent := 0
	round(t, a, s, func(c api.Call) (api.Reply, bool) {
		if c.Kind == api.PutIf && silent == 0 {
			silent++
			s.Do(c)
			return api.Reply{Err: api.ErrNet}, true
		}
		return api.Reply{}, false
	})
	if a.Merged() != 1 || a.Rounds() != 3 || current(s).Owners[0] != (api.Owner{Agent: 2, Life: 3, Count: 3}) || len(current(s).Entries) != 1 {
		t.Error("done without a reply", a.Merged(), current(s))
	}
}

func TestP20_2RowsStay(t *testing.T) {
	r := rand.New(rand.NewSource(1))
	for range 100 {
		s := store.New()
		c := conf()
		c.Small, c.Most, c.Tries, c.Wait = 2+r.Intn(6), 2+r.Intn(9), 1+r.Intn(8), r.Intn(2)
		agents := []*compact.Compactor{compact.New(1, 1, c), compact.New(2, 2, c)}
		for i := range 2 + r.Intn(10) {
			var times []int
			for range 1 + r.Intn(4) {
				times = append(times, 10*(i%2)+r.Intn(10))
			}
			slices.Sort(times)
			add(s, fmt.Sprint("b/", i), i%2, rows(i+1, times...))
			s.Tick(r.Intn(2))
		}
		before := all(s)
		for i := range 600 {
			a := agents[r.Intn(2)]
			call, ok := a.Next(s.Now())
			if !ok {
				s.Tick(1)
				continue
			}
			reply := api.Reply{Err: api.ErrNet}
			if n := r.Intn(10); n == 0 && i < 400 {
				s.Do(call)
			} else if n != 1 || i >= 400 {
				reply = s.Do(call)
			}
			a.Take(reply, s.Now())
			if (call.Kind == api.PutIf || i%50 == 0) && !same(all(s), before) {
				t.Fatal("the rows changed")
			}
		}
		if keys := merge.Choose(current(s).Entries, c.Small, c.Most); len(keys) != 0 {
			t.Fatal("two are left", keys)
		}
	}
}

func TestP20_2Memory(t *testing.T) {
	a, s := two()
	before := all(s)
	for a.Rounds() == 0 {
		c, _ := a.Next(s.Now())
		r := s.Do(c)
		a.Take(r, s.Now())
		for i := range c.Data {
			c.Data[i] = 0
		}
		for i := range r.Data {
			r.Data[i] = 0
		}
	}
	if a.Merged() != 1 || !same(all(s), before) {
		t.Error("memory is shared")
	}
}
