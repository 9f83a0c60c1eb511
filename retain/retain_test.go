package retain_test

import (
	"fmt"
	"math"
	"math/rand"
	"slices"
	"testing"

	"entrepot/api"
	"entrepot/manifest"
	"entrepot/retain"
	"entrepot/store"
)

func conf() api.Conf {
	return api.Conf{Window: 10, Group: 2, Buffer: 9, Flush: 9, Piece: 100, Tries: 3, Wait: 2, Small: 4, Most: 6}
}

// current is the manifest in a store.
func current(s *store.Store) api.Manifest {
	m, _ := manifest.Decode(s.Do(api.Call{Kind: api.Get, Key: api.ManifestKey}).Data)
	return m
}

// keep puts a manifest into a store.
func keep(s *store.Store, m api.Manifest) {
	b, e := manifest.Encode(m)
	if e != api.OK {
		panic("it isn't right")
	}
	s.Do(api.Call{Kind: api.Put, Key: api.ManifestKey, Data: b})
}

func entry(key string, window int) api.Entry {
	return api.Entry{Key: key, Window: window, Part: "{}", Rows: 1, Size: 1}
}

// step lets a retainer make one call, and tells its kind; 0: it makes none.
func step(t *testing.T, a *retain.Retainer, s *store.Store, reply ...api.Reply) int {
	t.Helper()
	c, ok := a.Next(s.Now())
	if !ok {
		return 0
	}
	if c.Key != api.ManifestKey || a.Idle() {
		t.Error("another call", c)
	}
	if c, ok := a.Next(s.Now()); ok || c.Kind != 0 {
		t.Error("a second call", c)
	}
	r := api.Reply{}
	if len(reply) > 0 {
		r = reply[0]
	} else {
		r = s.Do(c)
	}
	if e := a.Take(r, s.Now()); e != api.OK {
		t.Error(e)
	}
	if a.Take(r, s.Now()) != api.ErrArg {
		t.Error("none is waited for")
	}
	return c.Kind
}

func TestP21_1New(t *testing.T) {
	for _, x := range []struct {
		agent, life int
		c           api.Conf
		ok          bool
	}{
		{1, 1, conf(), true}, {api.MaxAgents, api.MaxNum - 1, conf(), true}, {0, 1, conf(), false}, {api.MaxAgents + 1, 1, conf(), false}, {1, 0, conf(), false}, {1, api.MaxNum, conf(), false}, {math.MinInt, math.MaxInt, conf(), false}, {1, 1, api.Conf{}, false},
	} {
		a := retain.New(x.agent, x.life, x.c)
		if (a != nil) != x.ok {
			t.Error(x)
		}
		if a == nil {
			continue
		}
		if c, ok := a.Next(0); ok || c.Kind != 0 || a.Cut() != 0 || !a.Idle() || a.Take(api.Reply{}, 0) != api.ErrArg {
			t.Error("it has something to do")
		}
	}
}

func TestP21_1Nil(t *testing.T) {
	var a *retain.Retainer
	c, ok := a.Next(1)
	if a.Wish(1) != api.ErrArg || c.Kind != 0 || ok || a.Take(api.Reply{}, 1) != api.ErrArg || a.Cut() != 0 || !a.Idle() {
		t.Error("a nil retainer")
	}
}

func TestP21_1Wish(t *testing.T) {
	s := store.New()
	a := retain.New(2, 3, conf())
	for _, window := range []int{-1, api.MaxNum, math.MinInt, math.MaxInt} {
		if a.Wish(window) != api.ErrArg || !a.Idle() {
			t.Error(window)
		}
	}
	if a.Wish(0) != api.OK || !a.Idle() || step(t, a, s) != 0 {
		t.Error("a wish of 0 is none")
	}
	if a.Wish(3) != api.OK || a.Wish(7) != api.OK || a.Wish(5) != api.OK || a.Idle() || a.Cut() != 0 {
		t.Error("a wish")
	}
	if step(t, a, s) != api.Get || step(t, a, s) != api.PutIf || step(t, a, s) != 0 || a.Cut() != 7 || !a.Idle() {
		t.Error("the greater one", a.Cut())
	}
	if a.Wish(7) != api.OK || !a.Idle() || step(t, a, s) != 0 {
		t.Error("it is cut already")
	}
	if a.Wish(api.MaxNum-1) != api.OK || step(t, a, s) != api.Get || step(t, a, s) != api.PutIf || a.Cut() != api.MaxNum-1 {
		t.Error("the greatest one", a.Cut())
	}
}

func TestP21_1Example(t *testing.T) {
	s := store.New()
	a := retain.New(2, 3, conf())
	a.Wish(3)
	if c, ok := a.Next(0); !ok || c.Kind != api.Get || c.Key != api.ManifestKey {
		t.Fatal(c, ok)
	}
	a.Take(api.Reply{Err: api.ErrNone}, 0)
	c, ok := a.Next(0)
	m, e := manifest.Decode(c.Data)
	if !ok || c.Kind != api.PutIf || c.Ver != 0 || e != api.OK || m.Cut != 3 || m.Gen != 1 || m.Fence != 0 || !slices.Equal(m.Owners, []api.Owner{{Agent: 2, Life: 3, Count: 1}}) {
		t.Error(c, m)
	}
	a.Take(s.Do(c), 0)
	if a.Cut() != 3 || !a.Idle() {
		t.Error(a.Cut())
	}
}

func TestP21_1Done(t *testing.T) {
	s := store.New()
	keep(s, api.Manifest{Gen: 5, Cut: 9, Entries: []api.Entry{entry("a", 9), entry("b", 12)}})
	a := retain.New(2, 3, conf())
	a.Wish(4)
	if step(t, a, s) != api.Get || step(t, a, s) != api.PutIf || a.Cut() != 9 || !a.Idle() {
		t.Error("its manifest's cut", a.Cut())
	}
	a.Wish(8)
	if !a.Idle() || step(t, a, s) != 0 {
		t.Error("it knows that")
	}
	a.Wish(10)
	step(t, a, s)
	a.Wish(12)
	step(t, a, s)
	if m := current(s); m.Cut != 10 || len(m.Entries) != 1 || a.Cut() != 10 || a.Idle() {
		t.Error("the wish that it was made of", m)
	}
	step(t, a, s)
	step(t, a, s)
	if m := current(s); m.Cut != 12 || len(m.Entries) != 1 || a.Cut() != 12 || m.Owners[0].Count != 3 {
		t.Error("the next one", m)
	}
}

func TestP21_1Refused(t *testing.T) {
	s := store.New()
	keep(s, api.Manifest{Cut: 4, Owners: []api.Owner{{Agent: 2, Life: 9, Count: 1}}})
	a := retain.New(2, 3, conf())
	a.Wish(3)
	if step(t, a, s) != api.Get || a.Cut() != 4 || !a.Idle() || step(t, a, s) != 0 {
		t.Error("the cut of what was read", a.Cut())
	}
	a.Wish(6)
	if step(t, a, s) != api.Get || a.Cut() != 4 || a.Idle() || step(t, a, s) != api.Get || current(s).Cut != 4 {
		t.Error("the wish is still above", a.Cut())
	}
	keep(s, api.Manifest{Cut: 1, Owners: []api.Owner{{Agent: 2, Life: 9, Count: 1}}})
	if step(t, a, s) != api.Get || a.Cut() != 4 {
		t.Error("if it is above", a.Cut())
	}
}

func TestP21_1Fails(t *testing.T) {
	s := store.New()
	s.Tick(10)
	a := retain.New(2, 3, conf())
	a.Wish(3)
	net := api.Reply{Err: api.ErrNet}
	for i, wait := range []int{2, 4, 0} {
		if step(t, a, s, net) != api.Get || a.Idle() || a.Cut() != 0 {
			t.Error("it fails", i)
		}
		if wait > 0 {
			s.Tick(wait - 1)
			if step(t, a, s) != 0 {
				t.Error("it doesn't wait", i)
			}
			s.Tick(1)
		}
	}
	if a.Take(net, s.Now()) != api.ErrArg || a.Idle() {
		t.Error("none is under way")
	}
	if step(t, a, s) != api.Get || step(t, a, s) != api.PutIf || a.Cut() != 3 || current(s).Owners[0].Count != 2 {
		t.Error("the next one begins", a.Cut())
	}
	a.Wish(4)
	if step(t, a, s, api.Reply{Err: api.ErrArg}) != api.Get || a.Cut() != 3 || a.Idle() {
		t.Error("as it was", a.Cut())
	}
}

func TestP21_2NothingBelow(t *testing.T) {
	r := rand.New(rand.NewSource(1))
	for range 300 {
		s := store.New()
		var m api.Manifest
		for i := range r.Intn(20) {
			m.Entries = append(m.Entries, entry(fmt.Sprintf("k%02d", i), r.Intn(20)))
		}
		keep(s, m)
		c := conf()
		c.Tries, c.Wait = 1+r.Intn(8), r.Intn(3)
		agents := []*retain.Retainer{retain.New(1, 1, c), retain.New(2, 2, c)}
		wishes, known := []int{0, 0}, []int{0, 0}
		for range 60 {
			k := r.Intn(2)
			a := agents[k]
			if r.Intn(6) == 0 && a.Idle() {
				wish := r.Intn(25)
				a.Wish(wish)
				wishes[k] = max(wishes[k], wish)
			}
			call, ok := a.Next(s.Now())
			if !ok {
				s.Tick(1)
				continue
			}
			reply := api.Reply{Err: api.ErrNet}
			if n := r.Intn(8); n == 0 {
				s.Do(call)
			} else if n > 1 {
				reply = s.Do(call)
			}
			a.Take(reply, s.Now())
			m := current(s)
			if a.Cut() < known[k] || a.Cut() > m.Cut || a.Idle() && a.Cut() < wishes[k] {
				t.Fatal("Cut", a.Cut(), known[k], m.Cut, wishes[k])
			}
			known[k] = a.Cut()
			for _, e := range m.Entries {
				if e.Window < a.Cut() {
					t.Fatal("an entry below", e)
				}
			}
		}
	}
}
