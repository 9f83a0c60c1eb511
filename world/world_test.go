package world_test

import (
	"fmt"
	"math"
	"math/rand"
	"reflect"
	"slices"
	"testing"

	"entrepot/api"
	"entrepot/block"
	"entrepot/record"
	"entrepot/world"
)

func conf() api.Conf {
	return api.Conf{Window: 10, By: []string{"svc"}, Group: 2, Buffer: 9, Flush: 99, Age: 999, Piece: 1000, Tries: 2, Wait: 1, Small: 4, Most: 8, Grace: 3}
}

var every = []int{api.Archiver, api.Compactor, api.Retainer, api.Collector, api.Reader}

func batch(maker, seq int, times ...int) api.Batch {
	b := api.Batch{Maker: maker, Seq: seq}
	for _, time := range times {
		b.Records = append(b.Records, api.Record{Kind: api.Log, Time: time, Text: "x", Labels: []api.Label{{Name: "svc", Value: "web"}}})
	}
	return b
}

func do(t *testing.T, w *world.World, o api.Op, want api.Errno) {
	t.Helper()
	if e := w.Do(o); e != want {
		t.Errorf("%d of agent %d: %d, not %d", o.Kind, o.Agent, e, want)
	}
}

func step(agent int) api.Op  { return api.Op{Kind: api.Step, Agent: agent} }
func fate(n int) api.Op      { return api.Op{Kind: api.Fate, N: n} }
func crash(agent int) api.Op { return api.Op{Kind: api.Crash, Agent: agent} }
func start(agent int) api.Op { return api.Op{Kind: api.Start, Agent: agent} }
func flush(agent int) api.Op { return api.Op{Kind: api.Flush, Agent: agent} }
func tick(n int) api.Op      { return api.Op{Kind: api.Tick, N: n} }
func wish(agent, n int) api.Op {
	return api.Op{Kind: api.Wish, Agent: agent, N: n}
}
func begin(agent int) api.Op { return api.Op{Kind: api.Begin, Agent: agent} }
func ask(agent int, q api.Query) api.Op {
	return api.Op{Kind: api.Ask, Agent: agent, Q: q}
}
func submit(agent int, b api.Batch) api.Op {
	return api.Op{Kind: api.Submit, Agent: agent, Batch: b}
}

var all = api.Query{To: api.MaxNum, Texts: true}

// settle steps an agent until it is idle.
func settle(t *testing.T, w *world.World, agent int) {
	t.Helper()
	for range 1000 {
		if w.Idle(agent) {
			return
		}
		do(t, w, step(agent), api.OK)
		do(t, w, tick(1), api.OK)
	}
	t.Fatal("it doesn't settle")
}

// snapshot is all that can be told of a world.
func snapshot(w *world.World) string {
	s := fmt.Sprint(w.Manifest(), w.Taken(), w.Asked(), w.Made(), w.Store().Now(), w.Store().Size(), w.Store().Uploads())
	for agent := range 10 {
		s += fmt.Sprint(w.Up(agent), w.Life(agent), w.Idle(agent))
	}
	for _, key := range w.Store().Keys() {
		s += fmt.Sprint(key, w.Store().Do(api.Call{Kind: api.Get, Key: key}))
	}
	return s
}

func TestP24_1New(t *testing.T) {
	for i, x := range []struct {
		c     api.Conf
		kinds []int
		ok    bool
	}{
		{conf(), every, true}, {conf(), []int{5}, true}, {conf(), slices.Repeat([]int{1}, api.MaxAgents), true}, {conf(), nil, false}, {conf(), []int{}, false}, {conf(), slices.Repeat([]int{1}, api.MaxAgents+1), false},
		{conf(), []int{1, 0}, false}, {conf(), []int{6, 1}, false}, {conf(), []int{-1}, false}, {conf(), []int{math.MaxInt}, false}, {api.Conf{}, every, false},
	} {
		if w := world.New(x.c, x.kinds); (w != nil) != x.ok {
			t.Error(i)
		}
	}
	w := world.New(conf(), every)
	for agent := 1; agent <= 5; agent++ {
		if !w.Up(agent) || w.Life(agent) != agent || !w.Idle(agent) {
			t.Error("agent", agent)
		}
	}
	if m := w.Manifest(); m.Gen != 0 || len(w.Taken())+len(w.Asked())+len(w.Made()) != 0 || len(w.Store().Keys()) != 0 || w.Store().Now() != 0 {
		t.Error("the beginning")
	}
}

func TestP24_1Errors(t *testing.T) {
	w := world.New(conf(), every)
	before := snapshot(w)
	check := func(want api.Errno, ops ...api.Op) {
		t.Helper()
		for _, o := range ops {
			do(t, w, o, want)
			if snapshot(w) != before {
				t.Error("something changed", o)
			}
		}
	}
	for _, agent := range []int{0, 6, -1, 9, math.MinInt, math.MaxInt} {
		check(api.ErrArg, step(agent), submit(agent, batch(1, 1, 1)), flush(agent), wish(agent, 1), begin(agent), ask(agent, all), crash(agent), start(agent))
	}
	for agent := 1; agent <= 5; agent++ {
		if agent != 1 {
			check(api.ErrArg, submit(agent, batch(1, 1, 1)), flush(agent))
		}
		if agent != 3 {
			check(api.ErrArg, wish(agent, 1))
		}
		if agent != 4 {
			check(api.ErrArg, begin(agent))
		}
		if agent != 5 {
			check(api.ErrArg, ask(agent, all))
		}
		check(api.ErrExist, start(agent))
	}
	check(api.ErrArg, fate(-1), fate(5), fate(math.MinInt), fate(math.MaxInt), tick(-1), tick(api.MaxNum+1), api.Op{}, api.Op{Kind: 11, Agent: 1}, api.Op{Kind: -1, Agent: 1}, api.Op{Kind: math.MaxInt, Agent: 1})
	check(api.ErrRange, tick(api.MaxNum))
	check(api.ErrArg, wish(3, -1), wish(3, api.MaxNum), ask(5, api.Query{From: 2, To: 1}))
	for agent := 1; agent <= 5; agent++ {
		do(t, w, crash(agent), api.OK)
	}
	before = snapshot(w)
	for agent := 1; agent <= 5; agent++ {
		check(api.ErrNone, step(agent), crash(agent))
		if w.Up(agent) || w.Life(agent) != 0 || !w.Idle(agent) {
			t.Error("it is down", agent)
		}
	}
	check(api.ErrNone, submit(1, batch(1, 1, 1)), submit(1, api.Batch{}), flush(1), wish(3, -1), begin(4), ask(5, api.Query{From: 2, To: 1}))
	check(api.ErrArg, submit(2, batch(1, 1, 1)), flush(5), wish(1, 1), begin(1), ask(1, all))
}

func TestP24_1Steps(t *testing.T) {
	w := world.New(conf(), every)
	do(t, w, tick(5), api.OK)
	do(t, w, step(1), api.OK)
	do(t, w, submit(1, batch(1, 1, 1)), api.OK)
	do(t, w, flush(1), api.OK)
	if w.Idle(1) {
		t.Error("something waits")
	}
	for range 9 {
		do(t, w, step(1), api.OK)
	}
	var kinds []int
	for _, x := range w.Made() {
		kinds = append(kinds, x.Call.Kind)
		if x.Agent != 1 || x.Life != 1 || x.At != 5 || x.Fate != 0 || len(x.Call.Data) != 0 {
			t.Error("a call", x)
		}
	}
	if !slices.Equal(kinds, []int{api.Create, api.Part, api.Complete, api.Get, api.PutIf}) {
		t.Error("the example", kinds)
	}
	if w.Made()[3].Err != api.ErrNone || w.Made()[4].Err != api.OK {
		t.Error("what the store said", w.Made())
	}
	if l := w.Taken(); len(l) != 1 || !l[0].Told || l[0].Outcome != api.OK || l[0].Err != api.OK || l[0].Agent != 1 || l[0].Life != 1 || !reflect.DeepEqual(l[0].Batch, batch(1, 1, 1)) {
		t.Error("Taken", l)
	}
	if m := w.Manifest(); m.Gen != 1 || len(m.Entries) != 1 || m.Entries[0].Born != 5 || !w.Idle(1) {
		t.Error("the manifest", m)
	}
}

func TestP24_1Fates(t *testing.T) {
	for _, x := range []struct {
		n            int
		made, taken  bool
		err, replied api.Errno
	}{{0, true, true, 0, 0}, {api.Lost, false, true, 0, api.ErrNet}, {api.Silent, true, true, 0, api.ErrNet}, {api.Full, false, true, 0, api.ErrFull}, {api.Falls, true, false, 0, 0}} {
		w := world.New(conf(), every)
		do(t, w, submit(1, batch(1, 1, 1)), api.OK)
		do(t, w, flush(1), api.OK)
		do(t, w, fate(x.n), api.OK)
		// An agent that tells no call leaves the fate to the next one.
		do(t, w, step(3), api.OK)
		do(t, w, step(1), api.OK)
		l := w.Made()
		if len(l) != 1 || l[0].Fate != x.n || l[0].Err != x.err || l[0].Call.Kind != api.Create {
			t.Error(x.n, l)
		}
		if (len(w.Store().Uploads()) == 1) != x.made || w.Up(1) != x.taken {
			t.Error("it is done, or its agent is down", x.n)
		}
		if !x.taken {
			continue
		}
		do(t, w, step(1), api.OK)
		if again := len(w.Made()) == 2; again != (x.replied == api.OK) {
			t.Error("behind a failure it waits", x.n)
		}
		do(t, w, tick(1), api.OK)
		do(t, w, step(1), api.OK)
		if l := w.Made(); l[1].Fate != 0 {
			t.Error("the next fate is none then", l)
		}
	}
}

func TestP24_1FateErr(t *testing.T) {
	for _, x := range []struct {
		n   int
		err api.Errno
	}{{0, api.ErrNone}, {api.Lost, 0}, {api.Silent, api.ErrNone}, {api.Full, 0}, {api.Falls, api.ErrNone}} {
		w := world.New(conf(), every)
		do(t, w, fate(x.n), api.OK)
		do(t, w, step(2), api.OK)
		if l := w.Made(); len(l) != 1 || l[0].Err != x.err || l[0].Agent != 2 || l[0].Life != 2 {
			t.Error(x, l)
		}
	}
	w := world.New(conf(), every)
	do(t, w, fate(api.Lost), api.OK)
	do(t, w, fate(api.Full), api.OK)
	do(t, w, fate(0), api.OK)
	do(t, w, step(2), api.OK)
	if l := w.Made(); l[0].Fate != 0 {
		t.Error("the last one said", l)
	}
}

func TestP24_1SubmitAnswers(t *testing.T) {
	w := world.New(conf(), every)
	do(t, w, submit(1, batch(1, 2, 1)), api.OK)
	do(t, w, submit(1, batch(1, 1, 1)), api.ErrBusy)
	do(t, w, flush(1), api.OK)
	settle(t, w, 1)
	do(t, w, submit(1, batch(1, 2, 1)), api.ErrDup)
	do(t, w, submit(1, api.Batch{}), api.ErrForm)
	l := w.Taken()
	if len(l) != 4 || l[1].Err != api.ErrBusy || l[2].Err != api.ErrDup || l[3].Err != api.ErrForm || !l[0].Told || l[1].Told || l[2].Told || l[3].Told {
		t.Error("Taken", l)
	}
}

func TestP24_1AllKinds(t *testing.T) {
	w := world.New(conf(), every)
	for seq := 1; seq <= 2; seq++ {
		do(t, w, submit(1, batch(1, seq, seq, 10+seq)), api.OK)
		do(t, w, flush(1), api.OK)
		settle(t, w, 1)
	}
	if m := w.Manifest(); len(m.Entries) != 4 {
		t.Fatal("four blocks", m)
	}
	if !w.Idle(2) {
		t.Error("between two rounds")
	}
	do(t, w, step(2), api.OK)
	if w.Idle(2) {
		t.Error("in a round")
	}
	settle(t, w, 2)
	do(t, w, step(2), api.OK)
	settle(t, w, 2)
	if m := w.Manifest(); len(m.Entries) != 2 || m.Entries[0].Rows != 2 {
		t.Error("two blocks", m)
	}
	do(t, w, wish(3, 1), api.OK)
	if w.Idle(3) {
		t.Error("a wish")
	}
	settle(t, w, 3)
	if m := w.Manifest(); len(m.Entries) != 1 || m.Cut != 1 {
		t.Error("one block", m)
	}
	do(t, w, tick(20), api.OK)
	do(t, w, begin(4), api.OK)
	if w.Idle(4) {
		t.Error("a round")
	}
	settle(t, w, 4)
	if keys := w.Store().Keys(); len(keys) != 2 || w.Manifest().Fence == 0 {
		t.Error("what nobody names", keys)
	}
	do(t, w, ask(5, all), api.OK)
	do(t, w, ask(5, all), api.ErrBusy)
	if l := w.Asked(); w.Idle(5) || len(l) != 1 || l[0].Told || l[0].Agent != 5 || l[0].Life != 5 || l[0].Q.To != all.To {
		t.Error("Asked", l)
	}
	settle(t, w, 5)
	if l := w.Asked(); len(l) != 1 || !l[0].Told || l[0].Answer.Err != api.OK || len(l[0].Answer.Rows) != 2 || l[0].Answer.Gen != w.Manifest().Gen || l[0].Answer.Rows[0].Time != 11 {
		t.Error("the answer", l)
	}
}

func TestP24_1Lives(t *testing.T) {
	w := world.New(conf(), every)
	do(t, w, submit(1, batch(1, 1, 1)), api.OK)
	do(t, w, flush(1), api.OK)
	do(t, w, ask(5, all), api.OK)
	do(t, w, wish(3, 9), api.OK)
	do(t, w, begin(4), api.OK)
	for i, agent := range []int{1, 5, 3, 4} {
		do(t, w, crash(agent), api.OK)
		do(t, w, start(agent), api.OK)
		if w.Life(agent) != 6+i || !w.Up(agent) || !w.Idle(agent) {
			t.Error("a life of its own, without anything", agent, w.Life(agent))
		}
		do(t, w, step(agent), api.OK)
	}
	if len(w.Made()) != 0 {
		t.Error("all it had is gone", w.Made())
	}
	if l := w.Taken(); len(l) != 1 || l[0].Told {
		t.Error("Taken", l)
	}
	do(t, w, submit(1, batch(1, 1, 1)), api.OK)
	do(t, w, flush(1), api.OK)
	settle(t, w, 1)
	if l := w.Taken(); len(l) != 2 || l[0].Told || l[0].Life != 1 || !l[1].Told || l[1].Life != 6 {
		t.Error("the life that tells", l)
	}
	if m := w.Manifest(); m.Entries[0].Key != "b/1.6.1" || m.Owners[0].Life != 6 {
		t.Error("the life", m)
	}
	do(t, w, ask(5, all), api.OK)
	settle(t, w, 5)
	if l := w.Asked(); len(l) != 2 || l[0].Told || l[0].Life != 5 || !l[1].Told || l[1].Life != 7 || len(l[1].Answer.Rows) != 1 {
		t.Error("Asked", l)
	}
}

func TestP24_2Apart(t *testing.T) {
	w := world.New(conf(), every)
	s := w.Store()
	s.Do(api.Call{Kind: api.Put, Key: api.ManifestKey, Data: []byte("x")})
	s.Tick(9)
	if len(w.Store().Keys()) != 0 || w.Store().Now() != 0 {
		t.Error("Store is a copy")
	}
	for _, agent := range []int{0, 6, -1, math.MaxInt} {
		if w.Up(agent) || w.Life(agent) != 0 || !w.Idle(agent) {
			t.Error("there is none", agent)
		}
	}
}

func TestP24_3Taken(t *testing.T) {
	w := world.New(conf(), []int{api.Archiver, api.Archiver})
	do(t, w, submit(1, api.Batch{Maker: 1}), api.ErrForm)
	do(t, w, submit(2, batch(1, 1, make([]int, 65)...)), api.ErrBig)
	do(t, w, submit(1, batch(1, 1, 1)), api.OK)
	do(t, w, submit(2, batch(1, 1, 1)), api.OK)
	do(t, w, flush(1), api.OK)
	do(t, w, flush(2), api.OK)
	settle(t, w, 2)
	settle(t, w, 1)
	var got []string
	for _, x := range w.Taken() {
		got = append(got, fmt.Sprint(x.Agent, x.Life, x.Batch.Maker, x.Batch.Seq, len(x.Batch.Records), int(x.Err), x.Told, int(x.Outcome)))
	}
	want := []string{"1 1 1 0 0 4 false 0", "2 2 1 1 65 14 false 0", "1 1 1 1 1 0 true 12", "2 2 1 1 1 0 true 0"}
	if !slices.Equal(got, want) {
		t.Error(got)
	}
}

func TestP24_3Again(t *testing.T) {
	// A batch that failed may be handed in again: each time has its own outcome.
	w := world.New(conf(), []int{api.Archiver})
	for range 2 {
		do(t, w, submit(1, batch(1, 1, 1)), api.OK)
		do(t, w, flush(1), api.OK)
		for range 2 {
			do(t, w, fate(api.Lost), api.OK)
			do(t, w, step(1), api.OK)
			do(t, w, tick(1), api.OK)
		}
	}
	do(t, w, submit(1, batch(1, 1, 1)), api.OK)
	if l := w.Taken(); len(l) != 3 || l[0].Outcome != api.ErrFailed || l[1].Outcome != api.ErrFailed || !l[1].Told || l[2].Told {
		t.Error(l)
	}
	do(t, w, flush(1), api.OK)
	settle(t, w, 1)
	if l := w.Taken(); l[1].Outcome != api.ErrFailed || !l[2].Told || l[2].Outcome != api.OK {
		t.Error(l)
	}
}

func TestP24_3Made(t *testing.T) {
	w := world.New(conf(), []int{api.Compactor, api.Reader})
	do(t, w, tick(3), api.OK)
	do(t, w, step(1), api.OK)
	do(t, w, tick(1), api.OK)
	do(t, w, ask(2, all), api.OK)
	do(t, w, fate(api.Silent), api.OK)
	do(t, w, step(2), api.OK)
	want := []api.Made{
		{Agent: 1, Life: 1, At: 3, Call: api.Call{Kind: api.Get, Key: api.ManifestKey}, Err: api.ErrNone},
		{Agent: 2, Life: 2, At: 4, Call: api.Call{Kind: api.Get, Key: api.ManifestKey}, Fate: api.Silent, Err: api.ErrNone},
	}
	if fmt.Sprint(w.Made()) != fmt.Sprint(want) {
		t.Error(w.Made())
	}
}

// someOp is anything that may happen.
func someOp(r *rand.Rand) api.Op {
	o := api.Op{Kind: r.Intn(12), Agent: r.Intn(8), N: r.Intn(6)}
	switch r.Intn(3) {
	case 0:
		o.Kind = api.Step
	case 1:
		o.Batch = batch(1+r.Intn(3), 1+r.Intn(20), r.Intn(30), r.Intn(30))
		o.Q = api.Query{From: r.Intn(9), To: r.Intn(40)}
	}
	if o.Kind == api.Crash && r.Intn(3) > 0 {
		o.Kind = api.Start
	}
	return o
}

func TestP24_4TheSame(t *testing.T) {
	for seed := range int64(20) {
		one, two := world.New(conf(), append(every, 1, 2)), world.New(conf(), append(every, 1, 2))
		r := rand.New(rand.NewSource(seed))
		for i := range 400 {
			o := someOp(r)
			if a, b := one.Do(o), two.Do(o); a != b {
				t.Fatal(o, a, b)
			}
			// What is asked of one changes nothing.
			if i%9 == 0 {
				one.Taken()
				one.Made()
				one.Asked()
				one.Store()
			}
		}
		if snapshot(one) != snapshot(two) {
			t.Fatal("they aren't the same")
		}
	}
}

func TestP24_4Nil(t *testing.T) {
	var w *world.World
	if w.Do(step(1)) != api.ErrArg || w.Do(tick(1)) != api.ErrArg || w.Store() != nil || w.Manifest().Gen != 0 || w.Up(1) || w.Life(1) != 0 || len(w.Taken())+len(w.Asked())+len(w.Made()) != 0 {
		t.Error("a nil world")
	}
	w.Idle(1)
}

func TestP24_4Memory(t *testing.T) {
	c, kinds := conf(), slices.Clone(every)
	w := world.New(c, kinds)
	c.By[0], kinds[0] = "zzz", api.Reader
	b := batch(1, 1, 1)
	do(t, w, submit(1, b), api.OK)
	b.Records[0].Labels[0].Value, b.Records[0].Text = "db", "y"
	do(t, w, flush(1), api.OK)
	settle(t, w, 1)
	q := api.Query{To: 99, Match: []api.Matcher{{Name: "svc", Way: api.Is, Value: "web"}}, Texts: true}
	do(t, w, ask(5, q), api.OK)
	q.Match[0].Value = "db"
	settle(t, w, 5)
	do(t, w, crash(1), api.OK)
	do(t, w, start(1), api.OK)
	do(t, w, submit(1, batch(1, 2, 11)), api.OK)
	do(t, w, flush(1), api.OK)
	settle(t, w, 1)
	if m := w.Manifest(); len(m.Entries) != 2 || m.Entries[1].Part != `{svc="web"}` {
		t.Error("the configuration is kept", m)
	}
	before := snapshot(w)
	taken, asked, made, m := w.Taken(), w.Asked(), w.Made(), w.Manifest()
	if taken[0].Batch.Records[0].Labels[0].Value != "web" || asked[0].Q.Match[0].Value != "web" || len(asked[0].Answer.Rows) != 1 || m.Entries[0].Part != `{svc="web"}` {
		t.Error("what is handed in is kept", taken, asked, m)
	}
	taken[0].Batch.Records[0].Labels[0].Value, taken[0].Batch.Records[0].Text = "x", "x"
	asked[0].Q.Match[0].Value = "x"
	asked[0].Answer.Rows[0].Labels[0].Value, asked[0].Answer.Rows[0].Text = "x", "x"
	made[0].Call.Key, m.Entries[0].Key = "x", "x"
	taken[0].Told, asked[0].Told = false, false
	if snapshot(w) != before {
		t.Error("an answer shares memory")
	}
}

func TestP24_1Readable(t *testing.T) {
	// At every moment each block that is named is there, whole.
	for seed := range int64(15) {
		r := rand.New(rand.NewSource(seed))
		w := world.New(conf(), append(every, 1, 4))
		for range 500 {
			w.Do(someOp(r))
			s := w.Store()
			for _, e := range w.Manifest().Entries {
				rows, err := block.Read(s.Do(api.Call{Kind: api.Get, Key: e.Key}).Data)
				if err != api.OK || len(rows) != e.Rows || len(record.Split(rows, 10, "svc")) != 1 {
					t.Fatal("a block isn't whole", e, err)
				}
			}
		}
	}
}
