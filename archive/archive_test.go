package archive_test

import (
	"fmt"
	"math"
	"math/rand"
	"slices"
	"strings"
	"testing"

	"entrepot/api"
	"entrepot/archive"
	"entrepot/block"
	"entrepot/crc"
	"entrepot/manifest"
	"entrepot/record"
	"entrepot/store"
)

func conf() api.Conf {
	return api.Conf{Window: 10, By: []string{"svc"}, Group: 2, Buffer: 6, Flush: 100, Age: 1000, Piece: 64, Tries: 3, Wait: 2, Small: 4, Most: 8, Grace: 5}
}

func with(change func(*api.Conf)) api.Conf {
	c := conf()
	change(&c)
	return c
}

// batch has a record at each of these times.
func batch(maker, seq int, times ...int) api.Batch {
	b := api.Batch{Maker: maker, Seq: seq}
	for _, time := range times {
		b.Records = append(b.Records, api.Record{Kind: api.Log, Time: time, Text: fmt.Sprint(maker, seq), Labels: []api.Label{{Name: "svc", Value: "web"}}})
	}
	return b
}

// current is the manifest in a store.
func current(s *store.Store) api.Manifest {
	r := s.Do(api.Call{Kind: api.Get, Key: api.ManifestKey})
	m, _ := manifest.Decode(r.Data)
	return m
}

// steps lets an archiver make all its calls, and tells their kinds.
func steps(t *testing.T, a *archive.Archiver, s *store.Store) []int {
	t.Helper()
	var kinds []int
	for range 1000 {
		c, ok := a.Next(s.Now())
		if !ok {
			return kinds
		}
		kinds = append(kinds, c.Kind)
		if e := a.Take(s.Do(c), s.Now()); e != api.OK {
			t.Fatal(e)
		}
	}
	t.Fatal("it doesn't end")
	return nil
}

// rowsOf are the rows of all blocks that the store's manifest names; the blocks are as their entries tell.
func rowsOf(t *testing.T, s *store.Store, c api.Conf) []api.Row {
	t.Helper()
	var all []api.Row
	for _, e := range current(s).Entries {
		r := s.Do(api.Call{Kind: api.Get, Key: e.Key})
		rows, err := block.Read(r.Data)
		if err != api.OK || len(r.Data) != e.Size || crc.Sum(r.Data) != e.Sum || len(rows) != e.Rows || r.Born != e.Born || rows[0].Time != e.First || rows[len(rows)-1].Time != e.Last {
			t.Fatal("a block isn't as its entry tells", e, err)
		}
		groups := record.Split(rows, c.Window, c.By...)
		if len(groups) != 1 || groups[0].Window != e.Window || groups[0].Part != e.Part {
			t.Fatal("rows of another window or part", e)
		}
		all = append(all, rows...)
	}
	return record.Sort(all)
}

// rows are those of batches, in order.
func rows(l ...api.Batch) []api.Row {
	var all []api.Row
	for _, b := range l {
		all = append(all, record.Rows(b)...)
	}
	return record.Sort(all)
}

func same(a, b []api.Row) bool { return slices.EqualFunc(a, b, record.Same) }

func outcomes(t *testing.T, a *archive.Archiver, want ...api.Outcome) {
	t.Helper()
	if l := a.Outcomes(); !slices.Equal(l, want) {
		t.Errorf("outcomes %v, not %v", l, want)
	}
	if l := a.Outcomes(); len(l) != 0 {
		t.Error("told twice", l)
	}
}

func submit(t *testing.T, a *archive.Archiver, b api.Batch, now int, want api.Errno) {
	t.Helper()
	n := a.Waiting()
	if e := a.Submit(b, now); e != want {
		t.Errorf("%d.%d: %d, not %d", b.Maker, b.Seq, e, want)
	}
	if want == api.OK {
		n++
	}
	if a.Waiting() != n {
		t.Error("Waiting", a.Waiting(), n)
	}
}

func TestP19_1Fits(t *testing.T) {
	if !archive.Fits(conf()) || archive.Fits(api.Conf{}) {
		t.Error("a configuration")
	}
	set := func(f func(c *api.Conf) *int, right, wrong []int) {
		t.Helper()
		for _, n := range right {
			if !archive.Fits(with(func(c *api.Conf) { *f(c) = n })) {
				t.Error("it fits", n)
			}
		}
		for _, n := range append(wrong, math.MinInt, math.MaxInt, -1) {
			if archive.Fits(with(func(c *api.Conf) { *f(c) = n })) {
				t.Error("it doesn't fit", n)
			}
		}
	}
	set(func(c *api.Conf) *int { return &c.Window }, []int{1, api.MaxNum - 1}, []int{0, api.MaxNum})
	set(func(c *api.Conf) *int { return &c.Group }, []int{1, api.MaxGroup}, []int{0, api.MaxGroup + 1})
	set(func(c *api.Conf) *int { return &c.Buffer }, []int{1, api.MaxGroup}, []int{0, api.MaxGroup + 1})
	set(func(c *api.Conf) *int { return &c.Most }, []int{1, api.MaxGroup}, []int{0, api.MaxGroup + 1})
	set(func(c *api.Conf) *int { return &c.Flush }, []int{1, api.MaxGroup}, []int{0, api.MaxGroup + 1})
	set(func(c *api.Conf) *int { return &c.Piece }, []int{1, api.MaxData}, []int{0, api.MaxData + 1})
	set(func(c *api.Conf) *int { return &c.Tries }, []int{1, api.MaxTries}, []int{0, api.MaxTries + 1})
	set(func(c *api.Conf) *int { return &c.Small }, []int{0, api.MaxRows}, []int{api.MaxRows + 1})
	set(func(c *api.Conf) *int { return &c.Age }, []int{0, api.MaxWait}, []int{api.MaxWait + 1})
	set(func(c *api.Conf) *int { return &c.Wait }, []int{0, api.MaxWait}, []int{api.MaxWait + 1})
	set(func(c *api.Conf) *int { return &c.Grace }, []int{0, api.MaxWait}, []int{api.MaxWait + 1})
	for i, x := range []struct {
		by   []string
		want bool
	}{
		{nil, true}, {[]string{"a", "b", "c", "d"}, true}, {[]string{"a", "b", "c", "d", "e"}, false}, {[]string{"b", "a"}, false}, {[]string{"a", "a"}, false}, {[]string{""}, false}, {[]string{"A"}, false}, {[]string{"abcdefgh"}, true}, {[]string{"abcdefghi"}, false},
	} {
		if archive.Fits(with(func(c *api.Conf) { c.By = x.by })) != x.want {
			t.Error("By", i)
		}
	}
}

func TestP19_1New(t *testing.T) {
	for _, x := range []struct {
		agent, life int
		c           api.Conf
		ok          bool
	}{
		{1, 1, conf(), true}, {api.MaxAgents, api.MaxNum - 1, conf(), true}, {0, 1, conf(), false}, {api.MaxAgents + 1, 1, conf(), false}, {1, 0, conf(), false}, {1, api.MaxNum, conf(), false}, {-1, -1, conf(), false}, {math.MaxInt, math.MinInt, conf(), false}, {1, 1, api.Conf{}, false},
	} {
		a := archive.New(x.agent, x.life, x.c)
		if (a != nil) != x.ok {
			t.Error(x)
		}
		if a == nil {
			continue
		}
		a.Flush()
		if c, ok := a.Next(math.MaxInt); ok || c.Kind != 0 || a.Waiting() != 0 || len(a.Outcomes()) != 0 || a.Take(api.Reply{}, 1) != api.ErrArg {
			t.Error("it has something")
		}
	}
}

func TestP19_1Submit(t *testing.T) {
	a := archive.New(1, 1, conf())
	submit(t, a, api.Batch{}, 0, api.ErrForm)
	submit(t, a, batch(1, 5, make([]int, 65)...), 0, api.ErrBig)
	heavy := batch(1, 5, 1)
	for range 40 {
		heavy.Records = append(heavy.Records, api.Record{Kind: api.Log, Text: strings.Repeat("x", 200)})
	}
	submit(t, a, heavy, 0, api.ErrBig)
	submit(t, a, batch(1, 5, 1, 2), 0, api.OK)
	submit(t, a, batch(1, 5, 3), 0, api.ErrBusy)
	submit(t, a, batch(1, 4, 3), 0, api.ErrBusy)
	submit(t, a, batch(2, 4, 3), 0, api.OK)
	submit(t, a, batch(1, 6, 4, 11), 0, api.OK)
	submit(t, a, batch(3, 1, 21, 5, 5, 5), 0, api.ErrBusy)
	submit(t, a, batch(3, 1, 5, 21), 0, api.OK)
	submit(t, a, batch(3, 2, 15), 0, api.OK)
	other := batch(4, 1, 6)
	other.Records[0].Labels = nil
	submit(t, a, batch(4, 1, 6, 6), 0, api.ErrBusy)
	submit(t, a, other, 0, api.OK)
}

func TestP19_1SubmitDup(t *testing.T) {
	s := store.New()
	a, b := archive.New(1, 1, conf()), archive.New(2, 2, conf())
	submit(t, a, batch(1, 5, 1), 0, api.OK)
	a.Flush()
	steps(t, a, s)
	outcomes(t, a, api.Outcome{Maker: 1, Seq: 5})
	submit(t, a, batch(1, 5, 1), 0, api.ErrDup)
	submit(t, a, batch(1, 4, 1), 0, api.ErrDup)
	submit(t, a, batch(1, 6, 1), 0, api.OK)
	submit(t, a, batch(1, 5, 1), 0, api.ErrDup)
	submit(t, a, batch(1, 6, 1), 0, api.ErrBusy)
	// b doesn't know that manifest yet.
	submit(t, b, batch(1, 5, 1), 0, api.OK)
	if e := a.Submit(api.Batch{Maker: 1, Seq: 5}, 0); e != api.ErrForm {
		t.Error("Check comes first", e)
	}
}

func TestP19_1BusyInAWave(t *testing.T) {
	a := archive.New(1, 1, conf())
	submit(t, a, batch(1, 5, 1, 2, 3, 4, 5, 6), 0, api.OK)
	submit(t, a, batch(2, 1, 1), 0, api.ErrBusy)
	a.Flush()
	a.Next(0)
	submit(t, a, batch(1, 5, 1), 0, api.ErrBusy)
	submit(t, a, batch(1, 6, 1, 2, 3, 4, 5, 6), 0, api.OK)
	if a.Waiting() != 2 {
		t.Error("Waiting", a.Waiting())
	}
}

func TestP19_2Begins(t *testing.T) {
	begins := func(name string, a *archive.Archiver, now int, want bool) {
		t.Helper()
		c, ok := a.Next(now)
		if ok != want || ok && c.Kind != api.Create {
			t.Error(name, c, ok)
		}
	}
	a := archive.New(1, 1, conf())
	a.Flush()
	submit(t, a, batch(1, 1, 1), 50, api.OK)
	begins("a flush was asked for when nothing waited", a, 50, false)
	begins("ahead of Age", a, 50+999, false)
	begins("at Age", a, 50+1000, true)
	a = archive.New(1, 1, conf())
	submit(t, a, batch(1, 1, 1), 50, api.OK)
	submit(t, a, batch(1, 2, 1), 60, api.OK)
	begins("the first one counts", a, 50+1000, true)
	a = archive.New(1, 1, conf())
	submit(t, a, batch(1, 1, 1), 50, api.OK)
	a.Flush()
	begins("a flush", a, 50, true)
	a = archive.New(1, 1, with(func(c *api.Conf) { c.Flush = 3 }))
	submit(t, a, batch(1, 1, 1, 2, 11, 12, 21), 0, api.OK)
	begins("fewer than Flush rows", a, 0, false)
	submit(t, a, batch(1, 2, 3), 0, api.OK)
	begins("Flush rows", a, 0, true)
	begins("a second call", a, 0, false)
	a = archive.New(1, 1, with(func(c *api.Conf) { c.Age = 0 }))
	submit(t, a, batch(1, 1, 1), 7, api.OK)
	begins("no Age", a, 7, true)
}

func TestP19_2AgeBeginsAnew(t *testing.T) {
	s := store.New()
	a := archive.New(1, 1, with(func(c *api.Conf) { c.Age = 10 }))
	submit(t, a, batch(1, 1, 1), 0, api.OK)
	a.Flush()
	a.Next(0)
	a.Take(s.Do(api.Call{Kind: api.Create, Key: "b/1.1.1"}), 0)
	submit(t, a, batch(1, 2, 1), 4, api.OK)
	steps(t, a, s)
	outcomes(t, a, api.Outcome{Maker: 1, Seq: 1})
	if _, ok := a.Next(13); ok {
		t.Error("the flush, or the first one's tick, holds still")
	}
	if _, ok := a.Next(14); !ok {
		t.Error("at Age")
	}
}

func TestP19_2FlushInAWave(t *testing.T) {
	s := store.New()
	a := archive.New(1, 1, conf())
	submit(t, a, batch(1, 1, 1), 0, api.OK)
	a.Flush()
	a.Next(0)
	a.Flush()
	a.Take(s.Do(api.Call{Kind: api.Create, Key: "b/1.1.1"}), 0)
	submit(t, a, batch(1, 2, 1), 0, api.OK)
	steps(t, a, s)
	if a.Waiting() != 1 {
		t.Error("a flush was asked for when nothing waited", a.Waiting())
	}
	a.Flush()
	steps(t, a, s)
	if a.Waiting() != 0 {
		t.Error("a flush was asked for", a.Waiting())
	}
}

func TestP19_2Wave(t *testing.T) {
	s := store.New()
	s.Tick(3)
	a := archive.New(2, 5, conf())
	one, two, three := batch(7, 9, 15, 3), batch(4, 2, 12), batch(7, 11, 4, 1)
	two.Records[0].Labels[0].Value = "db"
	for _, b := range []api.Batch{one, two, three} {
		submit(t, a, b, 3, api.OK)
	}
	a.Flush()
	var keys []string
	var kinds []int
	for {
		c, ok := a.Next(3)
		if !ok {
			break
		}
		if len(kinds) == 0 || kinds[len(kinds)-1] != c.Kind {
			kinds = append(kinds, c.Kind)
		}
		if c.Kind == api.Create {
			keys = append(keys, c.Key)
		}
		if a.Waiting() != 3 {
			t.Error("Waiting", a.Waiting())
		}
		a.Take(s.Do(c), 3)
		s.Tick(1)
	}
	if !slices.Equal(keys, []string{"b/2.5.1", "b/2.5.2", "b/2.5.3"}) {
		t.Error("keys", keys)
	}
	load := []int{api.Create, api.Part, api.Complete}
	if !slices.Equal(kinds, slices.Concat(load, load, load, []int{api.Get, api.PutIf})) {
		t.Error("kinds", kinds)
	}
	outcomes(t, a, api.Outcome{Maker: 7, Seq: 9}, api.Outcome{Maker: 4, Seq: 2}, api.Outcome{Maker: 7, Seq: 11})
	m := current(s)
	if !slices.Equal(m.Marks, []api.Mark{{Maker: 4, Seq: 2}, {Maker: 7, Seq: 11}}) || !slices.Equal(m.Owners, []api.Owner{{Agent: 2, Life: 5, Count: 1}}) || m.Gen != 1 || m.Cut != 0 || m.Fence != 0 || a.Waiting() != 0 {
		t.Error("the manifest", m)
	}
	for i, want := range []struct {
		window int
		part   string
		rows   int
	}{{0, `{svc="web"}`, 3}, {1, `{svc="db"}`, 1}, {1, `{svc="web"}`, 1}} {
		if e := m.Entries[i]; e.Window != want.window || e.Part != want.part || e.Rows != want.rows {
			t.Error("an entry", e)
		}
	}
	if !same(rowsOf(t, s, conf()), rows(one, two, three)) {
		t.Error("the rows")
	}
	want, _ := block.Build(rows(one, three)[:3], 2)
	if r := s.Do(api.Call{Kind: api.Get, Key: "b/2.5.1"}); string(r.Data) != string(want) {
		t.Error("groups of Group rows")
	}
	submit(t, a, batch(7, 12, 1), 3, api.OK)
	a.Flush()
	steps(t, a, s)
	m = current(s)
	if _, ok := manifest.Find(m, "b/2.5.4"); !ok || m.Owners[0].Count != 2 || m.Gen != 2 {
		t.Error("the next wave", m)
	}
}

func TestP19_2Pieces(t *testing.T) {
	s := store.New()
	a := archive.New(1, 1, with(func(c *api.Conf) { c.Piece = 1 }))
	submit(t, a, batch(1, 1, 1), 0, api.OK)
	a.Flush()
	parts := 0
	for _, kind := range steps(t, a, s) {
		if kind == api.Part {
			parts++
		}
	}
	size := current(s).Entries[0].Size
	per := (size + 31) / 32
	if parts != (size+per-1)/per {
		t.Error("parts", parts, size)
	}
}

// meets steps, and answers the calls for which reply tells something with that instead.
func meets(t *testing.T, a *archive.Archiver, s *store.Store, reply func(api.Call) (api.Reply, bool)) {
	t.Helper()
	for range 2000 {
		c, ok := a.Next(s.Now())
		if !ok {
			if a.Waiting() == 0 {
				return
			}
			s.Tick(1)
			continue
		}
		r, other := reply(c)
		if !other {
			r = s.Do(c)
		}
		a.Take(r, s.Now())
	}
	t.Fatal("it doesn't end")
}

func TestP19_2UploadFails(t *testing.T) {
	for _, kind := range []int{api.Create, api.Part, api.Complete} {
		s := store.New()
		a := archive.New(1, 1, conf())
		submit(t, a, batch(1, 1, 1), 0, api.OK)
		submit(t, a, batch(2, 1, 11, 21), 0, api.OK)
		a.Flush()
		n := 0
		meets(t, a, s, func(c api.Call) (api.Reply, bool) {
			if c.Kind == kind && n == 1 {
				return api.Reply{Err: api.ErrLong}, true
			}
			if c.Kind == api.Complete {
				n++
			}
			return api.Reply{}, false
		})
		outcomes(t, a, api.Outcome{Maker: 1, Seq: 1, Err: api.ErrFailed}, api.Outcome{Maker: 2, Seq: 1, Err: api.ErrFailed})
		if current(s).Gen != 0 {
			t.Error("it was committed")
		}
		submit(t, a, batch(1, 1, 1), 0, api.OK)
		a.Flush()
		steps(t, a, s)
		outcomes(t, a, api.Outcome{Maker: 1, Seq: 1})
		if m := current(s); m.Gen != 1 || m.Owners[0].Count != 1 || m.Entries[0].Rows != 1 {
			t.Error("the next one", m)
		}
	}
}

func TestP19_2CommitFails(t *testing.T) {
	s := store.New()
	a := archive.New(1, 1, conf())
	submit(t, a, batch(1, 1, 1), 0, api.OK)
	a.Flush()
	meets(t, a, s, func(c api.Call) (api.Reply, bool) {
		return api.Reply{Err: api.ErrNet}, c.Kind == api.PutIf
	})
	outcomes(t, a, api.Outcome{Maker: 1, Seq: 1, Err: api.ErrFailed})
	submit(t, a, batch(1, 1, 1), 0, api.OK)
	a.Flush()
	// It is done, but its replies are lost until it fails.
	meets(t, a, s, func(c api.Call) (api.Reply, bool) {
		if c.Kind == api.PutIf {
			s.Do(c)
		}
		return api.Reply{Err: api.ErrNet}, c.Kind == api.PutIf || c.Kind == api.Get && c.Key == api.ManifestKey
	})
	outcomes(t, a, api.Outcome{Maker: 1, Seq: 1, Err: api.ErrFailed})
	if m := current(s); m.Gen != 0 {
		t.Error("it is lost", m.Gen)
	}
	submit(t, a, batch(1, 1, 1), 0, api.OK)
	a.Flush()
	lost := false
	meets(t, a, s, func(c api.Call) (api.Reply, bool) {
		if c.Kind == api.PutIf {
			s.Do(c)
			lost = true
		}
		return api.Reply{Err: api.ErrNet}, lost && c.Kind != api.Create
	})
	outcomes(t, a, api.Outcome{Maker: 1, Seq: 1, Err: api.ErrFailed})
	submit(t, a, batch(1, 1, 1), 0, api.OK)
	a.Flush()
	steps(t, a, s)
	outcomes(t, a, api.Outcome{Maker: 1, Seq: 1, Err: api.ErrDup})
	if m := current(s); m.Gen != 1 || len(m.Entries) != 1 {
		t.Error("it counts twice", m)
	}
}

func TestP19_2NewerLife(t *testing.T) {
	s := store.New()
	a, b := archive.New(1, 1, conf()), archive.New(1, 2, conf())
	submit(t, b, batch(1, 1, 1), 0, api.OK)
	b.Flush()
	steps(t, b, s)
	submit(t, a, batch(2, 1, 1), 0, api.OK)
	a.Flush()
	steps(t, a, s)
	outcomes(t, a, api.Outcome{Maker: 2, Seq: 1, Err: api.ErrFailed})
	submit(t, a, batch(1, 1, 1), 0, api.ErrDup)
}

func TestP19_2Dup(t *testing.T) {
	s := store.New()
	a, b := archive.New(1, 1, conf()), archive.New(2, 2, conf())
	submit(t, b, batch(1, 4, 1), 0, api.OK)
	submit(t, b, batch(3, 1, 2), 0, api.OK)
	b.Flush()
	steps(t, b, s)
	first, second := batch(1, 3, 1), batch(3, 1, 2)
	left, other := batch(1, 5, 8, 11), batch(2, 1, 9)
	for _, x := range []api.Batch{first, left, other, second} {
		submit(t, a, x, 0, api.OK)
	}
	a.Flush()
	var told []api.Outcome
	meets(t, a, s, func(api.Call) (api.Reply, bool) {
		told = append(told, a.Outcomes()...)
		return api.Reply{}, false
	})
	told = append(told, a.Outcomes()...)
	slices.SortFunc(told, func(x, y api.Outcome) int { return (x.Maker*10 + x.Seq) - (y.Maker*10 + y.Seq) })
	if !slices.Equal(told, []api.Outcome{{Maker: 1, Seq: 3, Err: api.ErrDup}, {Maker: 1, Seq: 5}, {Maker: 2, Seq: 1}, {Maker: 3, Seq: 1, Err: api.ErrDup}}) {
		t.Error("outcomes", told)
	}
	if !same(rowsOf(t, s, conf()), rows(batch(1, 4, 1), batch(3, 1, 2), left, other)) {
		t.Error("the rows")
	}
	m := current(s)
	if _, ok := manifest.Find(m, "b/1.1.3"); !ok || len(m.Entries) != 3 || manifest.Mark(m, 1) != 5 || m.Owners[0].Count != 2 {
		t.Error("new keys, and a new count", m)
	}
}

func TestP19_2AllDup(t *testing.T) {
	s := store.New()
	a, b := archive.New(1, 1, conf()), archive.New(2, 2, conf())
	for _, x := range []*archive.Archiver{a, b} {
		submit(t, x, batch(1, 4, 1), 0, api.OK)
		submit(t, x, batch(2, 4, 1), 0, api.OK)
		x.Flush()
		steps(t, x, s)
	}
	outcomes(t, a, api.Outcome{Maker: 1, Seq: 4}, api.Outcome{Maker: 2, Seq: 4})
	outcomes(t, b, api.Outcome{Maker: 1, Seq: 4, Err: api.ErrDup}, api.Outcome{Maker: 2, Seq: 4, Err: api.ErrDup})
	if current(s).Gen != 1 || b.Waiting() != 0 {
		t.Error("it counts twice")
	}
	submit(t, b, batch(1, 4, 1), 0, api.ErrDup)
	submit(t, b, batch(1, 5, 2), 0, api.OK)
	b.Flush()
	steps(t, b, s)
	outcomes(t, b, api.Outcome{Maker: 1, Seq: 5})
	if !same(rowsOf(t, s, conf()), rows(batch(1, 4, 1), batch(2, 4, 1), batch(1, 5, 2))) {
		t.Error("the next wave")
	}
}

func TestP19_2Fence(t *testing.T) {
	s := store.New()
	a := archive.New(1, 1, conf())
	submit(t, a, batch(1, 1, 1), 0, api.OK)
	submit(t, a, batch(2, 1, 11), 0, api.OK)
	a.Flush()
	fenced := 0
	meets(t, a, s, func(c api.Call) (api.Reply, bool) {
		if c.Kind == api.Get && fenced < 2 {
			fenced++
			m := current(s)
			n, _ := manifest.Apply(m, api.Edit{Fence: s.Now() + 1, By: api.Owner{Agent: 8, Life: 1, Count: fenced}})
			b, _ := manifest.Encode(n)
			s.Do(api.Call{Kind: api.Put, Key: api.ManifestKey, Data: b})
			r := s.Do(c)
			s.Tick(1)
			return r, true
		}
		return api.Reply{}, false
	})
	outcomes(t, a, api.Outcome{Maker: 1, Seq: 1}, api.Outcome{Maker: 2, Seq: 1})
	m := current(s)
	if len(m.Entries) != 2 || m.Entries[0].Key != "b/1.1.5" || m.Entries[1].Key != "b/1.1.6" || m.Entries[0].Born < m.Fence || m.Owners[0].Count != 3 {
		t.Error("blocks that are younger", m)
	}
	if !same(rowsOf(t, s, conf()), rows(batch(1, 1, 1), batch(2, 1, 11))) {
		t.Error("the rows")
	}
}

func TestP19_2TooManyBlocks(t *testing.T) {
	s := store.New()
	var full api.Manifest
	for i := range api.MaxEntries {
		full.Entries = append(full.Entries, api.Entry{Key: fmt.Sprintf("x%03d", i), Part: "{}", Rows: 1, Size: 1})
	}
	b, _ := manifest.Encode(full)
	s.Do(api.Call{Kind: api.Put, Key: api.ManifestKey, Data: b})
	a := archive.New(1, 1, conf())
	submit(t, a, batch(1, 1, 1), 0, api.OK)
	a.Flush()
	steps(t, a, s)
	outcomes(t, a, api.Outcome{Maker: 1, Seq: 1, Err: api.ErrFailed})
}

func TestP19_2Nil(t *testing.T) {
	var a *archive.Archiver
	a.Flush()
	c, ok := a.Next(1)
	if a.Submit(batch(1, 1, 1), 1) != api.ErrArg || c.Kind != 0 || ok || a.Take(api.Reply{}, 1) != api.ErrArg || len(a.Outcomes()) != 0 || a.Waiting() != 0 {
		t.Error("a nil archiver")
	}
}

func TestP19_2Take(t *testing.T) {
	a := archive.New(1, 1, conf())
	submit(t, a, batch(1, 1, 1), 0, api.OK)
	if a.Take(api.Reply{}, 0) != api.ErrArg {
		t.Error("no wave is under way")
	}
	a.Flush()
	a.Next(0)
	if c, ok := a.Next(0); ok || c.Kind != 0 {
		t.Error("a second call")
	}
	if a.Take(api.Reply{Err: api.ErrNet}, 0) != api.OK || a.Take(api.Reply{Err: api.ErrNet}, 0) != api.ErrArg {
		t.Error("one reply")
	}
	if _, ok := a.Next(1); ok {
		t.Error("it doesn't wait")
	}
	if _, ok := a.Next(2); !ok {
		t.Error("it waits too long")
	}
}

func TestP19_3OneOutcome(t *testing.T) {
	r := rand.New(rand.NewSource(1))
	for range 150 {
		s := store.New()
		c := with(func(c *api.Conf) { c.Flush, c.Age, c.Tries, c.Wait = 1+r.Intn(4), r.Intn(9), 1+r.Intn(8), r.Intn(2) })
		agents := []*archive.Archiver{archive.New(1, 1, c), archive.New(2, 2, c)}
		open := []map[api.Mark]int{{}, {}}
		told := map[api.Mark]bool{}
		for i := range 700 {
			k := r.Intn(2)
			a := agents[k]
			if i < 500 && r.Intn(6) == 0 {
				b := batch(1+r.Intn(3), 1+r.Intn(12), r.Intn(40), r.Intn(40))
				if a.Submit(b, s.Now()) == api.OK {
					open[k][api.Mark{Maker: b.Maker, Seq: b.Seq}]++
				}
			}
			if call, ok := a.Next(s.Now()); ok {
				reply := api.Reply{Err: api.ErrNet}
				if n := r.Intn(8); n == 0 && i < 500 {
					s.Do(call)
				} else if n > 1 || i >= 500 {
					reply = s.Do(call)
				}
				a.Take(reply, s.Now())
			} else {
				s.Tick(1)
			}
			for _, o := range a.Outcomes() {
				x := api.Mark{Maker: o.Maker, Seq: o.Seq}
				open[k][x]--
				if open[k][x] < 0 {
					t.Fatal("an outcome of what wasn't taken in, or a second one", o)
				}
				if o.Err != api.OK && o.Err != api.ErrDup && o.Err != api.ErrFailed {
					t.Fatal("no such outcome", o)
				}
				if o.Err == api.OK {
					if told[x] {
						t.Fatal("it counts twice", o)
					}
					told[x] = true
				}
			}
			left := 0
			for _, n := range open[k] {
				left += n
			}
			if left != a.Waiting() {
				t.Fatal("Waiting", left, a.Waiting())
			}
		}
		seen := map[api.Mark]int{}
		all := rowsOf(t, s, c)
		for i, x := range all {
			seen[api.Mark{Maker: x.Maker, Seq: x.Seq}]++
			for _, y := range all[:i] {
				if x.Maker == y.Maker && x.Seq == y.Seq && x.Place == y.Place {
					t.Fatal("an identity stands in two places", x)
				}
			}
		}
		for x := range told {
			if seen[x] != 2 {
				t.Fatal("what was told OK isn't there", x, seen[x])
			}
		}
		for x, n := range seen {
			if n != 2 {
				t.Fatal("half a batch", x, n)
			}
		}
	}
}

func TestP19_4Memory(t *testing.T) {
	s := store.New()
	c := conf()
	a := archive.New(1, 1, c)
	c.By[0] = "zzz"
	b := batch(1, 1, 1, 2)
	submit(t, a, b, 0, api.OK)
	want := rows(batch(1, 1, 1, 2))
	b.Records[0].Labels[0].Value, b.Records[1].Text = "x", "x"
	a.Flush()
	for {
		call, ok := a.Next(0)
		if !ok {
			break
		}
		r := s.Do(call)
		a.Take(r, 0)
		for i := range call.Data {
			call.Data[i] = 0
		}
		for i := range r.Data {
			r.Data[i] = 0
		}
	}
	if !same(rowsOf(t, s, conf()), want) {
		t.Error("what is handed in is kept")
	}
	l := a.Outcomes()
	l[0].Seq = 9
	_ = append(l, api.Outcome{})
	submit(t, a, batch(1, 2, 1), 0, api.OK)
	a.Flush()
	steps(t, a, s)
	outcomes(t, a, api.Outcome{Maker: 1, Seq: 2})
}
