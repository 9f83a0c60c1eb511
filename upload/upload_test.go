package upload_test

import (
	"bytes"
	"fmt"
	"math"
	"math/rand"
	"slices"
	"testing"

	"entrepot/api"
	"entrepot/store"
	"entrepot/upload"
)

func TestP17_1New(t *testing.T) {
	most := make([]byte, api.MaxData)
	for i, x := range []struct {
		data               []byte
		piece, tries, wait int
		ok                 bool
	}{
		{nil, 1, 1, 0, true}, {most, api.MaxData, api.MaxTries, api.MaxNum, true}, {append(most, 0), 1, 1, 0, false},
		{nil, 0, 1, 0, false}, {nil, -1, 1, 0, false}, {nil, api.MaxData + 1, 1, 0, false}, {nil, math.MinInt, 1, 0, false},
		{nil, 1, 0, 0, false}, {nil, 1, api.MaxTries + 1, 0, false}, {nil, 1, -1, 0, false}, {nil, 1, 1, -1, false}, {nil, 1, 1, api.MaxNum + 1, false}, {nil, math.MaxInt, math.MaxInt, math.MaxInt, false},
	} {
		u := upload.New("k", x.data, x.piece, x.tries, x.wait)
		if (u != nil) != x.ok {
			t.Error(i)
		}
		if u != nil && (u.State() != upload.Going || u.Born() != 0) {
			t.Error("it isn't going", i)
		}
	}
	if upload.Going != 0 || upload.Done != 1 || upload.Failed != 2 {
		t.Error("the states")
	}
}

func TestP17_1Nil(t *testing.T) {
	var u *upload.Upload
	c, ok := u.Next(5)
	if ok || c.Kind != 0 || u.Take(api.Reply{}, 5) != api.ErrArg || u.State() != upload.Failed || u.Born() != 0 {
		t.Error("a nil upload")
	}
}

// pieces are the parts that an upload tells to a store that does all.
func pieces(t *testing.T, data []byte, piece int) [][]byte {
	s := store.New()
	s.Tick(3)
	u := upload.New("b/1", data, piece, 1, 0)
	var l [][]byte
	var kinds []int
	for {
		c, ok := u.Next(3)
		if !ok {
			break
		}
		kinds = append(kinds, c.Kind)
		switch c.Kind {
		case api.Part:
			l = append(l, c.Data)
			if c.N != len(l) || c.ID != 1 {
				t.Fatal("a part's number", c.N, c.ID)
			}
		case api.Complete:
			if c.N != len(l) || c.ID != 1 {
				t.Fatal("how many parts", c.N, len(l))
			}
		}
		if e := u.Take(s.Do(c), 3); e != api.OK {
			t.Fatal(e)
		}
	}
	if !slices.Equal(kinds, slices.Concat([]int{api.Create}, slices.Repeat([]int{api.Part}, len(l)), []int{api.Complete})) {
		t.Fatal("other calls", kinds)
	}
	if r := s.Do(api.Call{Kind: api.Get, Key: "b/1"}); u.State() != upload.Done || u.Born() != 3 || !bytes.Equal(r.Data, data) {
		t.Fatal("it isn't done", u.State(), u.Born())
	}
	return l
}

func TestP17_1Parts(t *testing.T) {
	data := make([]byte, api.MaxData)
	rand.New(rand.NewSource(1)).Read(data)
	for _, x := range []struct{ n, piece, parts, size int }{
		{0, 1, 1, 0}, {0, 99, 1, 0}, {1, 1, 1, 1}, {5, 2, 3, 2}, {4, 2, 2, 2}, {32, 1, 32, 1}, {33, 1, 17, 2}, {64, 1, 32, 2}, {65, 1, 22, 3}, {33, 40, 1, 33}, {100, 3, 25, 4}, {100, 4, 25, 4}, {100, 5, 20, 5},
		{api.MaxData, 1, 32, 8192}, {api.MaxData, api.MaxData, 1, api.MaxData}, {api.MaxData - 1, 1, 32, 8192}, {api.MaxData, 8193, 32, 8193},
	} {
		l := pieces(t, data[:x.n], x.piece)
		if len(l) != x.parts || !bytes.Equal(slices.Concat(l...), data[:x.n]) {
			t.Error(x, len(l))
		}
		for _, part := range l[:len(l)-1] {
			if len(part) != x.size {
				t.Error(x, len(part))
			}
		}
		if x.parts > 1 && (len(l[len(l)-1]) > x.size || len(l[len(l)-1]) == 0) {
			t.Error("the last part", x)
		}
	}
}

// turn is a call that is expected at a tick, behind a failure not ahead of it, and its reply.
type turn struct {
	at   int
	kind int
	r    api.Reply
}

func wrong(e api.Errno) api.Reply { return api.Reply{Err: e} }

// plays lets an upload of "hello" by 3 meet these replies, and tells how it ended.
func plays(t *testing.T, name string, tries, wait int, state, born int, turns ...turn) {
	t.Helper()
	u := upload.New("k", []byte("hello"), 3, tries, wait)
	if u.Take(api.Reply{}, 0) != api.ErrArg {
		t.Error(name, "a reply that isn't waited for")
	}
	last := 0
	for i, x := range turns {
		if u.State() != upload.Going || u.Born() != 0 {
			t.Fatal(name, i, "it is over", u.State())
		}
		for now := last; i > 0 && turns[i-1].r.Err != api.OK && now < x.at; now++ {
			if c, ok := u.Next(now); ok || c.Kind != 0 {
				t.Fatal(name, i, "too soon", now, c)
			}
			if u.Take(api.Reply{}, now) != api.ErrArg {
				t.Fatal(name, i, "a reply that isn't waited for")
			}
		}
		c, ok := u.Next(x.at)
		if !ok || c.Kind != x.kind {
			t.Fatal(name, i, "another call", c, ok)
		}
		if again, ok := u.Next(x.at + 100); ok || again.Kind != 0 {
			t.Fatal(name, i, "a second call")
		}
		if e := u.Take(x.r, x.at); e != api.OK {
			t.Fatal(name, i, e)
		}
		last = x.at
	}
	if u.State() != state || u.Born() != born {
		t.Error(name, "ended so:", u.State(), u.Born())
	}
	if state == upload.Going {
		return
	}
	if c, ok := u.Next(last + 1000000); ok || c.Kind != 0 || u.Take(api.Reply{}, last) != api.ErrArg || u.State() != state {
		t.Error(name, "it goes on", c)
	}
}

var (
	net, none, full, arg = wrong(api.ErrNet), wrong(api.ErrNone), wrong(api.ErrFull), wrong(api.ErrArg)
	id                   = api.Reply{ID: 7, Born: 1}
	ok                   = api.Reply{}
	born                 = api.Reply{Ver: 3, Born: 9}
	there                = api.Reply{Data: []byte("hello"), Ver: 3, Born: 8}
	other                = api.Reply{Data: []byte("hullo"), Ver: 3, Born: 8}
)

func TestP17_1AllIsWell(t *testing.T) {
	plays(t, "well", 1, 5, upload.Done, 9, turn{2, api.Create, id}, turn{2, api.Part, ok}, turn{3, api.Part, ok}, turn{9, api.Complete, born})
}

func TestP17_1CreateFails(t *testing.T) {
	plays(t, "again", 8, 4, upload.Going, 0, turn{10, api.Create, net}, turn{14, api.Create, full}, turn{22, api.Create, net}, turn{38, api.Create, id}, turn{38, api.Part, ok})
	plays(t, "the last try", 2, 4, upload.Failed, 0, turn{10, api.Create, net}, turn{14, api.Create, full})
	plays(t, "the only try", 1, 4, upload.Failed, 0, turn{10, api.Create, full})
	for _, e := range []api.Errno{api.ErrArg, api.ErrNone, api.ErrVer, api.ErrLong, api.ErrForm, 99, -1} {
		plays(t, "another error", 8, 4, upload.Failed, 0, turn{1, api.Create, wrong(e)})
	}
	plays(t, "no wait", 3, 0, upload.Failed, 0, turn{0, api.Create, net}, turn{0, api.Create, net}, turn{0, api.Create, net})
}

func TestP17_1PartFails(t *testing.T) {
	plays(t, "again", 8, 1, upload.Done, 9, turn{1, api.Create, id}, turn{1, api.Part, net}, turn{2, api.Part, ok}, turn{3, api.Part, full}, turn{5, api.Part, net}, turn{9, api.Part, ok}, turn{9, api.Complete, born})
	plays(t, "the last try", 2, 9, upload.Failed, 0, turn{1, api.Create, id}, turn{1, api.Part, net}, turn{10, api.Part, net}, turn{10, api.Abort, ok})
	for _, e := range []api.Errno{api.ErrArg, api.ErrNone, api.ErrVer, api.ErrLong, api.ErrForm, 99, -1} {
		plays(t, "another error", 8, 4, upload.Failed, 0, turn{1, api.Create, id}, turn{1, api.Part, wrong(e)}, turn{1, api.Abort, net})
	}
	plays(t, "failures altogether", 3, 1, upload.Failed, 0, turn{1, api.Create, net}, turn{2, api.Create, id}, turn{2, api.Part, net}, turn{4, api.Part, ok}, turn{4, api.Part, full}, turn{4, api.Abort, ok})
}

func TestP17_1CompleteFails(t *testing.T) {
	begin := []turn{{1, api.Create, id}, {1, api.Part, ok}, {1, api.Part, ok}}
	with := func(l ...turn) []turn { return append(slices.Clone(begin), l...) }
	plays(t, "the example", 8, 4, upload.Done, 8, with(turn{10, api.Complete, net}, turn{14, api.Get, there})...)
	plays(t, "not done", 8, 4, upload.Done, 9, with(turn{10, api.Complete, net}, turn{14, api.Get, none}, turn{14, api.Complete, born})...)
	plays(t, "another one's", 8, 4, upload.Failed, 0, with(turn{10, api.Complete, net}, turn{14, api.Get, other}, turn{14, api.Abort, none})...)
	plays(t, "full", 8, 4, upload.Done, 9, with(turn{10, api.Complete, full}, turn{14, api.Complete, born})...)
	plays(t, "gone, and done", 8, 4, upload.Done, 8, with(turn{10, api.Complete, none}, turn{14, api.Get, there})...)
	plays(t, "gone, and not done", 8, 4, upload.Failed, 0, with(turn{10, api.Complete, none}, turn{14, api.Get, none})...)
	plays(t, "gone, and another one's", 8, 4, upload.Failed, 0, with(turn{10, api.Complete, none}, turn{14, api.Get, other})...)
	plays(t, "gone at the last try", 1, 4, upload.Failed, 0, with(turn{10, api.Complete, none})...)
	plays(t, "lost at the last try", 1, 4, upload.Failed, 0, with(turn{10, api.Complete, net}, turn{10, api.Abort, ok})...)
	plays(t, "full at the last try", 1, 4, upload.Failed, 0, with(turn{10, api.Complete, full}, turn{10, api.Abort, full})...)
	for _, e := range []api.Errno{api.ErrArg, api.ErrForm, api.ErrLong, api.ErrVer, 99} {
		plays(t, "another error", 8, 4, upload.Failed, 0, with(turn{10, api.Complete, wrong(e)}, turn{10, api.Abort, ok})...)
	}
}

func TestP17_1LookFails(t *testing.T) {
	begin := []turn{{1, api.Create, id}, {1, api.Part, ok}, {1, api.Part, ok}, {10, api.Complete, net}}
	with := func(l ...turn) []turn { return append(slices.Clone(begin), l...) }
	plays(t, "again", 8, 4, upload.Done, 8, with(turn{14, api.Get, net}, turn{22, api.Get, full}, turn{38, api.Get, there})...)
	plays(t, "the last try", 2, 4, upload.Failed, 0, with(turn{14, api.Get, net}, turn{14, api.Abort, ok})...)
	plays(t, "another error", 8, 4, upload.Failed, 0, with(turn{14, api.Get, arg}, turn{14, api.Abort, ok})...)
	plays(t, "complete again, then it is gone, and done", 8, 4, upload.Done, 8, with(turn{14, api.Get, none}, turn{14, api.Complete, none}, turn{22, api.Get, there})...)
	plays(t, "complete again, then it is gone", 8, 4, upload.Failed, 0, with(turn{14, api.Get, none}, turn{14, api.Complete, none}, turn{22, api.Get, none})...)
	plays(t, "gone, the look fails to the end", 3, 4, upload.Failed, 0, with(turn{14, api.Get, none}, turn{14, api.Complete, none}, turn{22, api.Get, net})...)
	plays(t, "again and again", 8, 1, upload.Done, 9, with(turn{11, api.Get, none}, turn{11, api.Complete, net}, turn{13, api.Get, none}, turn{13, api.Complete, born})...)
}

func TestP17_1Calls(t *testing.T) {
	u := upload.New("key", []byte("hello"), 3, 8, 0)
	for i, x := range []struct {
		c api.Call
		r api.Reply
	}{
		{api.Call{Kind: api.Create, Key: "key"}, id}, {api.Call{Kind: api.Part, ID: 7, N: 1, Data: []byte("hel")}, ok}, {api.Call{Kind: api.Part, ID: 7, N: 2, Data: []byte("lo")}, ok},
		{api.Call{Kind: api.Complete, ID: 7, N: 2}, net}, {api.Call{Kind: api.Get, Key: "key"}, other}, {api.Call{Kind: api.Abort, ID: 7}, ok},
	} {
		c, ok := u.Next(5)
		if !ok || fmt.Sprint(c) != fmt.Sprint(x.c) {
			t.Error(i, c, x.c)
		}
		u.Take(x.r, 5)
	}
}

func TestP17_2ItEnds(t *testing.T) {
	r := rand.New(rand.NewSource(2))
	for range 4000 {
		s := store.New()
		data := make([]byte, r.Intn(40))
		r.Read(data)
		tries := 1 + r.Intn(api.MaxTries)
		u := upload.New("k", data, 1+r.Intn(8), tries, r.Intn(3))
		calls, there := 0, false
		bad := r.Intn(4)
		for u.State() == upload.Going {
			c, ok := u.Next(s.Now())
			if !ok {
				s.Tick(1)
				continue
			}
			calls++
			before := s.Copy()
			reply := s.Do(c)
			switch r.Intn(4 + 6*bad) {
			case 0:
				reply = net
			case 1:
				s, reply = before, net
			case 2:
				s, reply = before, full
			case 3:
				if c.Kind == api.Complete {
					s.Do(api.Call{Kind: api.Abort, ID: c.ID})
				}
			}
			if a := s.Do(api.Call{Kind: api.Get, Key: "k"}); a.Err == api.OK && bytes.Equal(a.Data, data) {
				there = true
			}
			u.Take(reply, s.Now())
		}
		if calls > 2*tries+35*tries {
			t.Fatal("too many calls", calls, tries)
		}
		if u.State() == upload.Done && !there {
			t.Fatal("there is no such object")
		}
		if a := s.Do(api.Call{Kind: api.Get, Key: "k"}); u.State() == upload.Done && u.Born() != a.Born {
			t.Fatal("Born", u.Born(), a.Born)
		}
	}
}

func TestP17_3Memory(t *testing.T) {
	data := []byte("hello")
	u := upload.New("k", data, 3, 8, 0)
	copy(data, "xxxxx")
	u.Next(0)
	u.Take(id, 0)
	c, _ := u.Next(0)
	if string(c.Data) != "hel" {
		t.Error("New keeps what it was handed", c)
	}
	c.Data[0] = 'z'
	_ = append(c.Data, 'z')
	u.Take(net, 0)
	if c, _ = u.Next(0); string(c.Data) != "hel" {
		t.Error("Next shares memory", c)
	}
	u.Take(ok, 0)
	if c, _ = u.Next(0); string(c.Data) != "lo" {
		t.Error("Next shares memory", c)
	}
}
