package commit_test

import (
	"bytes"
	"math"
	"math/rand"
	"slices"
	"testing"

	"entrepot/api"
	"entrepot/commit"
	"entrepot/manifest"
	"entrepot/store"
)

func entry(key string, window int) api.Entry {
	return api.Entry{Key: key, Window: window, Part: "{}", First: 1, Last: 2, Rows: 2, Size: 9, Born: 5}
}

// edit is one that agent 1 makes.
func edit() api.Edit {
	return api.Edit{Add: []api.Entry{entry("b/1", 3)}, Marks: []api.Mark{{Maker: 2, Seq: 7}}, By: api.Owner{Agent: 1, Life: 2, Count: 3}}
}

func same(a, b api.Manifest) bool {
	return a.Gen == b.Gen && a.Cut == b.Cut && a.Fence == b.Fence && slices.Equal(a.Entries, b.Entries) && slices.Equal(a.Marks, b.Marks) && slices.Equal(a.Owners, b.Owners)
}

// apply is a manifest behind an edit that does.
func apply(m api.Manifest, d api.Edit) api.Manifest {
	n, e := manifest.Apply(m, d)
	if e != api.OK {
		panic("no such edit")
	}
	return n
}

// has is the reply of a Get that finds a manifest.
func has(m api.Manifest, ver int) api.Reply {
	b, e := manifest.Encode(m)
	if e != api.OK {
		panic("no such manifest")
	}
	return api.Reply{Data: b, Ver: ver, Born: 1}
}

func wrong(e api.Errno) api.Reply { return api.Reply{Err: e} }

var (
	net, none, full, lost = wrong(api.ErrNet), wrong(api.ErrNone), wrong(api.ErrFull), wrong(api.ErrVer)
	put                   = api.Reply{Ver: 9, Born: 1}
	other                 = apply(api.Manifest{}, api.Edit{Add: []api.Entry{entry("b/0", 3)}, By: api.Owner{Agent: 2, Life: 1, Count: 1}})
	later                 = apply(other, api.Edit{Cut: 3, By: api.Owner{Agent: 2, Life: 1, Count: 2}})
	mine                  = apply(other, edit())
)

func TestP18_1New(t *testing.T) {
	for _, x := range []struct {
		tries, wait int
		ok          bool
	}{{1, 0, true}, {api.MaxTries, api.MaxNum, true}, {0, 0, false}, {-1, 0, false}, {api.MaxTries + 1, 0, false}, {1, -1, false}, {1, api.MaxNum + 1, false}, {math.MaxInt, math.MaxInt, false}, {math.MinInt, math.MinInt, false}} {
		c := commit.New(edit(), x.tries, x.wait)
		if (c != nil) != x.ok {
			t.Error(x)
		}
		if c == nil {
			continue
		}
		if s, e := c.State(); s != commit.Going || e != api.OK || !same(c.Manifest(), api.Manifest{}) {
			t.Error("it isn't going", s, e)
		}
	}
	if commit.Going != 0 || commit.Done != 1 || commit.Refused != 2 || commit.Failed != 3 {
		t.Error("the states")
	}
}

func TestP18_1Nil(t *testing.T) {
	var c *commit.Commit
	call, ok := c.Next(1)
	s, e := c.State()
	if call.Kind != 0 || ok || c.Take(api.Reply{}, 1) != api.ErrArg || s != commit.Failed || e != api.ErrArg || !same(c.Manifest(), api.Manifest{}) {
		t.Error("a nil commit")
	}
}

// turn is a call that is expected at a tick, behind a failure not ahead of it, with its version and manifest, if it writes, and its reply.
type turn struct {
	at   int
	kind int
	ver  int
	m    api.Manifest
	r    api.Reply
}

func get(at int, r api.Reply) turn { return turn{at: at, kind: api.Get, r: r} }

func putIf(at, ver int, m api.Manifest, r api.Reply) turn {
	return turn{at: at, kind: api.PutIf, ver: ver, m: m, r: r}
}

// expected: is a call the one of a turn?
func (x turn) expected(c api.Call) bool {
	if c.Kind != x.kind || c.Key != api.ManifestKey || c.Ver != x.ver || c.At != 0 || c.N != 0 || c.ID != 0 {
		return false
	}
	if c.Kind == api.Get {
		return len(c.Data) == 0
	}
	b, _ := manifest.Encode(x.m)
	return bytes.Equal(b, c.Data)
}

// plays lets a commit meet these replies, and tells how it ended.
func plays(t *testing.T, name string, d api.Edit, tries, wait, state int, err api.Errno, m api.Manifest, turns ...turn) {
	t.Helper()
	c := commit.New(d, tries, wait)
	if c.Take(put, 0) != api.ErrArg {
		t.Error(name, "a reply that isn't waited for")
	}
	last := 0
	for i, x := range turns {
		if s, e := c.State(); s != commit.Going || e != api.OK {
			t.Fatal(name, i, "it is over", s, e)
		}
		for now := last; i > 0 && (turns[i-1].r.Err == api.ErrNet || turns[i-1].r.Err == api.ErrFull) && now < x.at; now++ {
			if call, ok := c.Next(now); ok || call.Kind != 0 || c.Take(put, now) != api.ErrArg {
				t.Fatal(name, i, "too soon", now)
			}
		}
		call, ok := c.Next(x.at)
		if !ok || !x.expected(call) {
			t.Fatal(name, i, "another call", call, ok)
		}
		if again, ok := c.Next(x.at + 99); ok || again.Kind != 0 {
			t.Fatal(name, i, "a second call")
		}
		if e := c.Take(x.r, x.at); e != api.OK {
			t.Fatal(name, i, e)
		}
		last = x.at
	}
	if s, e := c.State(); s != state || e != err {
		t.Error(name, "ended so:", s, e)
	}
	if !same(c.Manifest(), m) {
		t.Error(name, "has another manifest", c.Manifest())
	}
	if state != commit.Going {
		if call, ok := c.Next(last + 999999); ok || call.Kind != 0 || c.Take(put, last) != api.ErrArg {
			t.Error(name, "it goes on")
		}
	}
}

func TestP18_1AllIsWell(t *testing.T) {
	first := apply(api.Manifest{}, edit())
	plays(t, "none yet", edit(), 1, 5, commit.Done, api.OK, first, get(3, none), putIf(3, 0, first, put))
	plays(t, "there is one", edit(), 1, 5, commit.Done, api.OK, mine, get(3, has(other, 6)), putIf(4, 6, mine, put))
	plays(t, "it was done", edit(), 1, 5, commit.Done, api.OK, mine, get(3, has(mine, 6)))
	plays(t, "read", edit(), 1, 5, commit.Going, api.OK, other, get(3, has(other, 6)))
	plays(t, "none read", edit(), 1, 5, commit.Going, api.OK, api.Manifest{}, get(3, none))
}

func TestP18_1Overtaken(t *testing.T) {
	next := apply(later, edit())
	plays(t, "by another", edit(), 1, 5, commit.Done, api.OK, next, get(3, has(other, 6)), putIf(3, 6, mine, lost), get(3, has(later, 7)), putIf(3, 7, next, put))
	plays(t, "by itself", edit(), 2, 5, commit.Done, api.OK, mine, get(3, has(other, 6)), putIf(3, 6, mine, net), get(8, has(mine, 7)))
	plays(t, "the old one stays", edit(), 1, 5, commit.Going, api.OK, other, get(3, has(other, 6)), putIf(3, 6, mine, lost))
	plays(t, "the manifest is gone", edit(), 1, 5, commit.Done, api.OK, apply(api.Manifest{}, edit()), get(3, has(other, 6)), putIf(3, 6, mine, lost), get(3, none), putIf(3, 0, apply(api.Manifest{}, edit()), put))
}

func TestP18_1Refused(t *testing.T) {
	dup := apply(api.Manifest{}, api.Edit{Marks: []api.Mark{{Maker: 2, Seq: 7}}, By: api.Owner{Agent: 2, Life: 1, Count: 1}})
	plays(t, "ErrDup", edit(), 1, 5, commit.Refused, api.ErrDup, dup, get(3, has(dup, 6)))
	fence := api.Manifest{Fence: 6}
	plays(t, "ErrFence", edit(), 1, 5, commit.Refused, api.ErrFence, fence, get(3, has(fence, 6)))
	newer := api.Manifest{Owners: []api.Owner{{Agent: 1, Life: 3, Count: 1}}}
	plays(t, "ErrVer", edit(), 1, 5, commit.Refused, api.ErrVer, newer, get(3, has(newer, 6)))
	drop := edit()
	drop.Drop = []string{"gone"}
	plays(t, "ErrLost", drop, 1, 5, commit.Refused, api.ErrLost, api.Manifest{}, get(3, none))
	plays(t, "behind another's write", edit(), 1, 5, commit.Refused, api.ErrDup, dup, get(3, has(other, 6)), putIf(3, 6, mine, lost), get(3, has(dup, 8)))
	plays(t, "no edit", api.Edit{}, 1, 5, commit.Refused, api.ErrForm, api.Manifest{}, get(3, none))
}

func TestP18_1Fails(t *testing.T) {
	plays(t, "Get's failures", edit(), 8, 2, commit.Going, api.OK, other, get(5, net), get(7, full), get(11, net), get(19, has(other, 6)))
	plays(t, "Get's last one", edit(), 2, 2, commit.Failed, api.ErrFailed, api.Manifest{}, get(5, net), get(7, full))
	plays(t, "the only try", edit(), 1, 2, commit.Failed, api.ErrFailed, api.Manifest{}, get(5, full))
	plays(t, "PutIf's failure", edit(), 8, 2, commit.Done, api.OK, mine, get(5, has(other, 6)), putIf(5, 6, mine, full), get(7, has(other, 6)), putIf(7, 6, mine, put))
	plays(t, "PutIf's last one", edit(), 2, 2, commit.Failed, api.ErrFailed, other, get(5, net), get(7, has(other, 6)), putIf(7, 6, mine, net))
	plays(t, "failures altogether", edit(), 8, 2, commit.Going, api.OK, other, get(5, net), get(7, has(other, 6)), putIf(7, 6, mine, net), get(11, full), get(19, has(other, 6)))
	for _, e := range []api.Errno{api.ErrArg, api.ErrVer, api.ErrLong, 99, -1} {
		plays(t, "another error of Get", edit(), 8, 2, commit.Failed, e, api.Manifest{}, get(5, wrong(e)))
	}
	for _, e := range []api.Errno{api.ErrArg, api.ErrNone, api.ErrLong, 99, -1} {
		plays(t, "another error of PutIf", edit(), 8, 2, commit.Failed, e, other, get(5, has(other, 6)), putIf(5, 6, mine, wrong(e)))
	}
	plays(t, "no manifest: too short", edit(), 8, 2, commit.Failed, api.ErrShort, api.Manifest{}, get(5, api.Reply{Ver: 6}))
	plays(t, "no manifest: another sum", edit(), 8, 2, commit.Failed, api.ErrSum, api.Manifest{}, get(5, api.Reply{Ver: 6, Data: []byte("manifest")}))
	plays(t, "no manifest: another form", edit(), 8, 2, commit.Failed, api.ErrForm, api.Manifest{}, get(5, api.Reply{Ver: 6, Data: make([]byte, 4)}))
}

func TestP18_1Example(t *testing.T) {
	first := apply(api.Manifest{}, edit())
	plays(t, "the example", edit(), 8, 2, commit.Done, api.OK, first, get(5, none), putIf(5, 0, first, net), get(7, has(first, 1)))
}

func TestP18_2Once(t *testing.T) {
	r := rand.New(rand.NewSource(1))
	seen := map[int]int{}
	for range 3000 {
		s := store.New()
		d := edit()
		c := commit.New(d, 1+r.Intn(api.MaxTries), r.Intn(3))
		others := 0
		for {
			if state, _ := c.State(); state != commit.Going {
				break
			}
			if r.Intn(4) == 0 {
				// Another agent commits something of its own, perhaps even the same mark.
				m := api.Manifest{}
				a := s.Do(api.Call{Kind: api.Get, Key: api.ManifestKey})
				if a.Err == api.OK {
					m, _ = manifest.Decode(a.Data)
				}
				others++
				e := api.Edit{By: api.Owner{Agent: 2, Life: 1, Count: others}}
				if r.Intn(5) == 0 && manifest.Mark(m, 2) < 7 {
					e.Marks = []api.Mark{{Maker: 2, Seq: 7}}
				}
				b, _ := manifest.Encode(apply(m, e))
				s.Do(api.Call{Kind: api.PutIf, Key: api.ManifestKey, Ver: a.Ver, Data: b})
			}
			call, ok := c.Next(s.Now())
			if !ok {
				s.Tick(1)
				continue
			}
			reply := net
			switch r.Intn(5) {
			case 0:
				s.Do(call)
			case 1:
			default:
				reply = s.Do(call)
			}
			c.Take(reply, s.Now())
		}
		m := api.Manifest{}
		if a := s.Do(api.Call{Kind: api.Get, Key: api.ManifestKey}); a.Err == api.OK {
			m, _ = manifest.Decode(a.Data)
		}
		_, in := manifest.Find(m, "b/1")
		state, _ := c.State()
		seen[state]++
		if state == commit.Done && (!in || !manifest.Did(m, d.By) || !manifest.Did(c.Manifest(), d.By)) {
			t.Fatal("it is done, but isn't in it")
		}
		if state == commit.Refused && (in || manifest.Did(m, d.By)) {
			t.Fatal("it is refused, but is in it")
		}
	}
	if len(seen) != 3 {
		t.Error("not all ends were seen", seen)
	}
}

func TestP18_3Memory(t *testing.T) {
	d := edit()
	d.Drop = []string{"b/0"}
	c := commit.New(d, 8, 0)
	d.Add[0].Key, d.Drop[0], d.Marks[0].Seq = "x", "x", 99
	want := edit()
	want.Drop = []string{"b/0"}
	c.Next(0)
	r := has(other, 6)
	c.Take(r, 0)
	for i := range r.Data {
		r.Data[i] = 0
	}
	m := c.Manifest()
	m.Entries[0].Key, m.Owners[0].Life = "x", 99
	if !same(c.Manifest(), other) {
		t.Error("Manifest shares memory")
	}
	call, _ := c.Next(0)
	b, _ := manifest.Encode(apply(other, want))
	if !bytes.Equal(call.Data, b) {
		t.Error("New keeps what it was handed")
	}
	call.Data[0] = 0
	c.Take(full, 0)
	c.Next(0)
	c.Take(has(other, 6), 0)
	if call, _ = c.Next(0); !bytes.Equal(call.Data, b) {
		t.Error("Next shares memory")
	}
	c.Take(put, 0)
	m = c.Manifest()
	m.Entries[0].Key, m.Marks[0].Seq, m.Owners[0].Life = "x", 99, 99
	if !same(c.Manifest(), apply(other, want)) {
		t.Error("Manifest shares memory")
	}
}
