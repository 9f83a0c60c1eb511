package collect_test

import (
	"fmt"
	"math"
	"math/rand"
	"slices"
	"strings"
	"testing"

	"entrepot/api"
	"entrepot/collect"
	"entrepot/manifest"
	"entrepot/store"
)

func conf() api.Conf {
	return api.Conf{Window: 10, Group: 2, Buffer: 9, Flush: 9, Piece: 100, Tries: 3, Wait: 2, Small: 4, Most: 6, Grace: 6}
}

// current is the manifest in a store.
func current(s *store.Store) api.Manifest {
	m, _ := manifest.Decode(s.Do(api.Call{Kind: api.Get, Key: api.ManifestKey}).Data)
	return m
}

// keep puts a manifest that names these keys into a store.
func keep(s *store.Store, keys ...string) {
	var m api.Manifest
	for _, key := range keys {
		m.Entries = append(m.Entries, api.Entry{Key: key, Part: "{}", Rows: 1, Size: 1})
	}
	b, e := manifest.Encode(m)
	if e != api.OK {
		panic("it isn't right")
	}
	s.Do(api.Call{Kind: api.Put, Key: api.ManifestKey, Data: b})
}

func put(s *store.Store, key string) {
	s.Do(api.Call{Kind: api.Put, Key: key, Data: []byte("x")})
}

func create(s *store.Store, key string) {
	s.Do(api.Call{Kind: api.Create, Key: key})
}

// round lets a collector go to the end of a round, and tells its calls; what reply tells comes in the place of the store's.
func round(t *testing.T, a *collect.Collector, s *store.Store, reply func(api.Call) (api.Reply, bool)) []api.Call {
	t.Helper()
	var l []api.Call
	n := a.Rounds()
	for range 1000 {
		c, ok := a.Next(s.Now())
		if !ok {
			s.Tick(1)
			continue
		}
		if a.Idle() {
			t.Fatal("it is idle in a round")
		}
		if c, ok := a.Next(s.Now() + 99); ok || c.Kind != 0 {
			t.Fatal("a second call", c)
		}
		l = append(l, c)
		r, other := api.Reply{}, false
		if reply != nil {
			r, other = reply(c)
		}
		if !other {
			r = s.Do(c)
		}
		if e := a.Take(r, s.Now()); e != api.OK {
			t.Fatal(e)
		}
		if a.Take(r, s.Now()) != api.ErrArg {
			t.Fatal("none is waited for")
		}
		if a.Rounds() == n+1 {
			return l
		}
	}
	t.Fatal("the round doesn't end")
	return nil
}

// told are calls, each by its kind and what it names.
func told(l []api.Call) string {
	names := map[int]string{api.PutIf: "putif", api.Get: "get", api.List: "list", api.Delete: "delete", api.Opened: "opened", api.Abort: "abort"}
	var s []string
	for _, c := range l {
		text := names[c.Kind]
		switch c.Kind {
		case api.List:
			text += fmt.Sprintf(" %s>%s", c.Key, c.Data)
		case api.Delete:
			text += " " + c.Key
		case api.Opened, api.Abort:
			text += fmt.Sprint(" ", c.ID)
		}
		s = append(s, text)
	}
	return strings.Join(s, ", ")
}

func TestP22_1New(t *testing.T) {
	for _, x := range []struct {
		agent, life int
		c           api.Conf
		ok          bool
	}{
		{1, 1, conf(), true}, {api.MaxAgents, api.MaxNum - 1, conf(), true}, {0, 1, conf(), false}, {api.MaxAgents + 1, 1, conf(), false}, {1, 0, conf(), false}, {1, api.MaxNum, conf(), false}, {math.MinInt, math.MaxInt, conf(), false}, {1, 1, api.Conf{}, false},
	} {
		a := collect.New(x.agent, x.life, x.c)
		if (a != nil) != x.ok {
			t.Error(x)
		}
		if a == nil {
			continue
		}
		if c, ok := a.Next(9); ok || c.Kind != 0 || a.Rounds() != 0 || !a.Idle() || a.Take(api.Reply{}, 9) != api.ErrArg {
			t.Error("it isn't asked to do anything")
		}
	}
}

func TestP22_1Nil(t *testing.T) {
	var a *collect.Collector
	a.Begin()
	c, ok := a.Next(1)
	if c.Kind != 0 || ok || a.Take(api.Reply{}, 1) != api.ErrArg || a.Rounds() != 0 || !a.Idle() {
		t.Error("a nil collector")
	}
}

func TestP22_1Begin(t *testing.T) {
	s := store.New()
	a := collect.New(2, 3, conf())
	a.Begin()
	if a.Idle() || a.Rounds() != 0 {
		t.Error("it is asked for a round")
	}
	if l := round(t, a, s, nil); told(l) != "get, putif, list b/>, get, opened 0" {
		t.Error(told(l))
	}
	if c, ok := a.Next(0); ok || c.Kind != 0 || !a.Idle() || a.Rounds() != 1 {
		t.Error("one round")
	}
	a.Begin()
	a.Begin()
	round(t, a, s, nil)
	if a.Idle() {
		t.Error("asked twice")
	}
	round(t, a, s, nil)
	if !a.Idle() || a.Rounds() != 3 {
		t.Error("two rounds", a.Rounds())
	}
	a.Begin()
	begun := false
	round(t, a, s, func(c api.Call) (api.Reply, bool) {
		if c.Kind == api.List && !begun {
			begun = true
			a.Begin()
		}
		return api.Reply{}, false
	})
	if a.Idle() {
		t.Error("asked in a round")
	}
	round(t, a, s, nil)
	if c, ok := a.Next(0); ok || c.Kind != 0 || !a.Idle() || a.Rounds() != 5 || current(s).Owners[0] != (api.Owner{Agent: 2, Life: 3, Count: 5}) {
		t.Error("one more", a.Rounds(), current(s).Owners)
	}
}

func TestP22_1Example(t *testing.T) {
	s := store.New()
	s.Tick(2)
	for _, key := range []string{"b/old", "b/named", "other", "b"} {
		put(s, key)
	}
	create(s, "b/u1")
	s.Tick(1)
	put(s, "b/young")
	create(s, "b/u2")
	keep(s, "b/named")
	s.Tick(6)
	a := collect.New(2, 3, conf())
	a.Begin()
	if l := round(t, a, s, nil); told(l) != "get, putif, list b/>, get, delete b/old, opened 0, abort 1" {
		t.Error(told(l))
	}
	if m := current(s); m.Fence != 3 || m.Gen != 1 || m.Cut != 0 || len(m.Entries) != 1 {
		t.Error("the fence", m)
	}
	if !slices.Equal(s.Keys(), []string{"b", "b/named", "b/young", "manifest", "other"}) || !slices.Equal(s.Uploads(), []int{2}) {
		t.Error(s.Keys(), s.Uploads())
	}
}

func TestP22_1Fence(t *testing.T) {
	for _, x := range []struct{ now, grace, fence int }{{0, 6, 0}, {5, 6, 0}, {6, 6, 0}, {7, 6, 1}, {9, 0, 9}, {100, api.MaxWait, 0}} {
		s := store.New()
		s.Tick(x.now)
		c := conf()
		c.Grace = x.grace
		a := collect.New(1, 1, c)
		a.Begin()
		round(t, a, s, func(api.Call) (api.Reply, bool) {
			s.Tick(1)
			return api.Reply{}, false
		})
		if current(s).Fence != x.fence {
			t.Error(x, current(s).Fence)
		}
	}
	// The tick at which it began counts, not that at which it was asked.
	s := store.New()
	a := collect.New(1, 1, conf())
	a.Begin()
	s.Tick(10)
	round(t, a, s, nil)
	if current(s).Fence != 4 {
		t.Error(current(s).Fence)
	}
}

func TestP22_1Pages(t *testing.T) {
	s := store.New()
	s.Tick(1)
	var named []string
	for i := range 40 {
		key := fmt.Sprintf("b/%02d", i)
		put(s, key)
		create(s, key)
		if i%3 == 0 {
			named = append(named, key)
		}
	}
	s.Tick(1)
	put(s, "b/y")
	keep(s, named...)
	s.Tick(6)
	a := collect.New(1, 1, conf())
	a.Begin()
	l := round(t, a, s, nil)
	want := "get, putif, list b/>, list b/>b/15, list b/>b/31, get"
	for i := range 40 {
		if i%3 > 0 {
			want += fmt.Sprintf(", delete b/%02d", i)
		}
	}
	want += ", opened 0, opened 16, opened 32"
	for i := range 40 {
		want += fmt.Sprint(", abort ", i+1)
	}
	if told(l) != want {
		t.Error(told(l))
	}
	if keys := s.Keys(); len(keys) != len(named)+2 || len(s.Uploads()) != 0 {
		t.Error(keys, s.Uploads())
	}
}

func TestP22_1ShortPages(t *testing.T) {
	// A page with more behind it may be of any size.
	s := store.New()
	for i := range 3 {
		put(s, fmt.Sprint("b/", i))
		create(s, "b/u")
	}
	keep(s)
	s.Tick(9)
	a := collect.New(1, 1, conf())
	a.Begin()
	l := round(t, a, s, func(c api.Call) (api.Reply, bool) {
		if c.Kind != api.List && c.Kind != api.Opened {
			return api.Reply{}, false
		}
		r := s.Do(c)
		r.More = len(r.List) > 1
		r.List = r.List[:min(1, len(r.List))]
		return r, true
	})
	if told(l) != "get, putif, list b/>, list b/>b/0, list b/>b/1, get, delete b/0, delete b/1, delete b/2, opened 0, opened 1, opened 2, abort 1, abort 2, abort 3" {
		t.Error(told(l))
	}
}

func TestP22_1WhateverTheReplies(t *testing.T) {
	s := store.New()
	for _, key := range []string{"b/1", "b/2"} {
		put(s, key)
		create(s, key)
	}
	keep(s)
	s.Tick(9)
	a := collect.New(1, 1, conf())
	for i, e := range []api.Errno{api.ErrNet, api.ErrNone, api.ErrFull, api.ErrArg} {
		a.Begin()
		l := round(t, a, s, func(c api.Call) (api.Reply, bool) {
			return api.Reply{Err: e}, c.Kind == api.Delete || c.Kind == api.Abort
		})
		if told(l) != "get, putif, list b/>, get, delete b/1, delete b/2, opened 0, abort 1, abort 2" || a.Rounds() != i+1 {
			t.Error(e, told(l))
		}
	}
}

func TestP22_1Ends(t *testing.T) {
	for _, e := range []api.Errno{api.ErrNet, api.ErrFull, api.ErrArg, api.ErrNone} {
		for _, x := range []struct {
			kind, nth int
			want      string
		}{
			{api.List, 1, "get, putif, list b/>"}, {api.List, 2, "get, putif, list b/>, list b/>b/15"}, {api.Get, 2, "get, putif, list b/>, list b/>b/15, get"},
			{api.Opened, 1, "get, putif, list b/>, list b/>b/15, get, delete b/00, delete b/01, delete b/02, delete b/03, delete b/04, delete b/05, delete b/06, delete b/07, delete b/08, delete b/09, delete b/10, delete b/11, delete b/12, delete b/13, delete b/14, delete b/15, delete b/16, opened 0"},
		} {
			s := store.New()
			for i := range 17 {
				put(s, fmt.Sprintf("b/%02d", i))
			}
			keep(s)
			s.Tick(9)
			a := collect.New(1, 1, conf())
			a.Begin()
			n := 0
			l := round(t, a, s, func(c api.Call) (api.Reply, bool) {
				if c.Kind == x.kind {
					n++
				}
				return api.Reply{Err: e}, c.Kind == x.kind && n == x.nth
			})
			if told(l) != x.want || !a.Idle() {
				t.Error(e, x.kind, told(l))
			}
			a.Begin()
			if l := round(t, a, s, nil); !strings.HasPrefix(told(l), "get, putif, list b/>") {
				t.Error("the next round begins anew", told(l))
			}
		}
	}
}

func TestP22_1NoManifest(t *testing.T) {
	s := store.New()
	put(s, "b/1")
	keep(s)
	s.Tick(9)
	a := collect.New(1, 1, conf())
	a.Begin()
	gets := 0
	l := round(t, a, s, func(c api.Call) (api.Reply, bool) {
		if c.Kind == api.Get {
			gets++
		}
		return api.Reply{Data: []byte("no manifest")}, c.Kind == api.Get && gets == 2
	})
	if told(l) != "get, putif, list b/>, get" {
		t.Error(told(l))
	}
	a.Begin()
	if l := round(t, a, s, nil); told(l) != "get, putif, list b/>, get, delete b/1, opened 0" {
		t.Error("the next round", told(l))
	}
}

func TestP22_1CommitEnds(t *testing.T) {
	s := store.New()
	put(s, "b/1")
	keep(s)
	s.Tick(9)
	a := collect.New(1, 1, conf())
	a.Begin()
	if l := round(t, a, s, func(api.Call) (api.Reply, bool) { return api.Reply{Err: api.ErrNet}, true }); told(l) != "get, get, get" || s.Now() != 9+2+4 || a.Rounds() != 1 || !a.Idle() {
		t.Error("Failed", told(l), s.Now())
	}
	b := collect.New(1, 2, conf())
	b.Begin()
	round(t, b, s, nil)
	put(s, "b/2")
	s.Tick(9)
	a.Begin()
	if l := round(t, a, s, nil); told(l) != "get" || a.Rounds() != 2 {
		t.Error("Refused", told(l))
	}
}

func TestP22_2WhatIsNamedStays(t *testing.T) {
	r := rand.New(rand.NewSource(1))
	for range 150 {
		s := store.New()
		c := conf()
		c.Grace, c.Tries, c.Wait = r.Intn(6), 1+r.Intn(8), r.Intn(2)
		agents := []*collect.Collector{collect.New(1, 1, c), collect.New(2, 2, c)}
		ids, commits := 0, 0
		type block struct {
			key  string
			born int
		}
		var made []block
		for range 300 {
			switch r.Intn(8) {
			case 0:
				ids++
				key := fmt.Sprint("b/3.3.", ids)
				made = append(made, block{key, s.Now()})
				put(s, key)
			case 1:
				if len(made) == 0 {
					break
				}
				// A block that was made is named, if the manifest takes it in, or dropped again.
				x := made[r.Intn(len(made))]
				m := current(s)
				commits++
				d := api.Edit{By: api.Owner{Agent: 3, Life: 3, Count: commits}}
				if _, ok := manifest.Find(m, x.key); ok {
					d.Drop = []string{x.key}
					made = slices.DeleteFunc(made, func(y block) bool { return y.key == x.key })
				} else {
					d.Add = []api.Entry{{Key: x.key, Part: "{}", Rows: 1, Size: 1, Born: x.born}}
				}
				if n, e := manifest.Apply(m, d); e == api.OK {
					b, _ := manifest.Encode(n)
					s.Do(api.Call{Kind: api.Put, Key: api.ManifestKey, Data: b})
				} else {
					commits--
				}
			case 2:
				s.Tick(r.Intn(3))
			default:
				a := agents[r.Intn(2)]
				if a.Idle() {
					a.Begin()
				}
				call, ok := a.Next(s.Now())
				if !ok {
					break
				}
				reply := api.Reply{Err: api.ErrNet}
				if n := r.Intn(10); n == 0 {
					s.Do(call)
				} else if n > 1 {
					reply = s.Do(call)
				}
				a.Take(reply, s.Now())
			}
			for _, e := range current(s).Entries {
				if s.Do(api.Call{Kind: api.Get, Key: e.Key}).Err != api.OK {
					t.Fatal("what is named is gone", e.Key)
				}
			}
		}
		// Behind the grace one round without failures leaves what is named, and nothing else.
		s.Tick(c.Grace + 1)
		a := collect.New(4, 4, c)
		a.Begin()
		round(t, a, s, nil)
		for _, key := range s.Keys() {
			if _, ok := manifest.Find(current(s), key); !ok && key != api.ManifestKey {
				t.Fatal("what nobody names stays", key)
			}
		}
	}
}

func TestP22_2Memory(t *testing.T) {
	s := store.New()
	put(s, "b/1")
	create(s, "b/2")
	keep(s)
	s.Tick(9)
	a := collect.New(1, 1, conf())
	a.Begin()
	for a.Rounds() == 0 {
		c, _ := a.Next(9)
		r := s.Do(c)
		a.Take(r, 9)
		for i := range c.Data {
			c.Data[i] = 'x'
		}
		for i := range r.List {
			r.List[i] = api.Item{}
		}
	}
	if !slices.Equal(s.Keys(), []string{"manifest"}) || len(s.Uploads()) != 0 {
		t.Error("what is handed in is kept", s.Keys())
	}
}
