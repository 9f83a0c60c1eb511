package script_test

import (
	"fmt"
	"math/rand"
	"reflect"
	"slices"
	"testing"

	"entrepot/api"
	"entrepot/block"
	"entrepot/crc"
	"entrepot/manifest"
	"entrepot/merge"
	"entrepot/query"
	"entrepot/record"
	"entrepot/script"
	"entrepot/store"
	"entrepot/world"
)

// The promises of the whole, P1 to P7, are held against runs that are watched op by op.

// watcher lets things happen to a world, and looks at it behind each one.
type watcher struct {
	t *testing.T
	s script.Script
	w *world.World
	// The manifest ahead, and the rows of the blocks that were read.
	m    api.Manifest
	rows map[string][]api.Row
	// Of each reader: the manifest that it read.
	read map[int]api.Manifest
	seen map[string]int
	// All that was submitted and asked, as it was told last.
	taken []api.Taken
	asked []api.Asked
}

func watch(t *testing.T, s script.Script) *watcher {
	return &watcher{t: t, s: s, w: world.New(s.Conf, s.Kinds), rows: map[string][]api.Row{}, read: map[int]api.Manifest{}, seen: map[string]int{}}
}

func (x *watcher) fail(l ...any) {
	x.t.Helper()
	x.t.Fatal(fmt.Sprintf("%+v, %v: ", x.s.Conf, x.s.Kinds), fmt.Sprintln(l...))
}

// do lets one thing happen, and looks.
func (x *watcher) do(o api.Op) {
	x.t.Helper()
	made := -1
	if o.Kind == api.Step && o.Agent <= len(x.s.Kinds) && x.s.Kinds[o.Agent-1] == api.Reader && !x.w.Idle(o.Agent) {
		made = len(x.w.Made())
	}
	x.w.Do(o)
	m := x.w.Manifest()
	if made >= 0 {
		if l := x.w.Made(); len(l) > made && l[made].Call.Kind == api.Get && l[made].Fate == 0 {
			x.read[o.Agent] = m
		}
	}
	x.blocks(m)
	if !reflect.DeepEqual(m, x.m) {
		x.changed(m)
		x.m = m
	}
	if o.Kind == api.Step || o.Kind == api.Submit || o.Kind == api.Ask {
		x.told()
	}
}

// blocks holds P1 and P4: each block that is named is there, whole, with just the rows of its window and part.
func (x *watcher) blocks(m api.Manifest) {
	x.t.Helper()
	var s *store.Store
	for _, e := range m.Entries {
		if s == nil {
			s = x.w.Store()
		}
		data := s.Do(api.Call{Kind: api.Get, Key: e.Key}).Data
		if len(data) != e.Size || crc.Sum(data) != e.Sum {
			x.fail("P1, P4: a block isn't there", e)
		}
		if _, ok := x.rows[e.Key]; ok {
			continue
		}
		rows, err := block.Read(data)
		groups := record.Split(rows, x.s.Conf.Window, x.s.Conf.By...)
		if err != api.OK || len(rows) != e.Rows || len(groups) != 1 || groups[0].Window != e.Window || groups[0].Part != e.Part || rows[0].Time != e.First || rows[len(rows)-1].Time != e.Last {
			x.fail("P1: a block isn't as its entry tells", e, err)
		}
		x.rows[e.Key] = rows
	}
}

// all are the rows that a manifest names; no identity may stand in two places.
func (x *watcher) all(m api.Manifest) []api.Row {
	x.t.Helper()
	var l []api.Row
	identities := map[[3]int]int{}
	for _, e := range m.Entries {
		for _, y := range x.rows[e.Key] {
			if identities[[3]int{y.Maker, y.Seq, y.Place}]++; identities[[3]int{y.Maker, y.Seq, y.Place}] > 1 {
				x.fail("P1: an identity stands in two places", y)
			}
			l = append(l, y)
		}
	}
	return record.Sort(l)
}

func sameRows(a, b []api.Row) bool { return slices.EqualFunc(a, b, record.Same) }

// uncut are those of rows that aren't below a cut.
func (x *watcher) uncut(l []api.Row, cut int) []api.Row {
	return slices.DeleteFunc(record.Sort(l), func(y api.Row) bool { return y.Time/x.s.Conf.Window < cut })
}

// changed holds P1 and P5: a manifest changes in four ways alone, and goes on.
func (x *watcher) changed(m api.Manifest) {
	x.t.Helper()
	old := x.m
	if !manifest.Right(m) || m.Gen != old.Gen+1 || m.Cut < old.Cut || m.Fence < old.Fence {
		x.fail("P5: it doesn't go on", old, m)
	}
	for _, k := range old.Marks {
		if manifest.Mark(m, k.Maker) < k.Seq {
			x.fail("P5: a mark has fallen", old, m)
		}
	}
	kind := 0
	for _, o := range m.Owners {
		i := slices.IndexFunc(old.Owners, func(p api.Owner) bool { return p.Agent == o.Agent })
		if i >= 0 && old.Owners[i] == o {
			continue
		}
		if i >= 0 && (old.Owners[i].Life > o.Life || old.Owners[i].Life == o.Life && old.Owners[i].Count >= o.Count) || kind != 0 {
			x.fail("P5: an owner has fallen, or two have changed", old, m)
		}
		kind = x.s.Kinds[o.Agent-1]
	}
	before, after := x.all(old), x.all(m)
	same := map[int]bool{
		api.Archiver:  m.Cut == old.Cut && m.Fence == old.Fence && x.adds(old, m),
		api.Compactor: m.Cut == old.Cut && m.Fence == old.Fence && slices.Equal(m.Marks, old.Marks) && sameRows(before, after),
		api.Retainer:  m.Fence == old.Fence && slices.Equal(m.Marks, old.Marks) && sameRows(x.uncut(before, m.Cut), after),
		api.Collector: m.Cut == old.Cut && slices.Equal(m.Marks, old.Marks) && slices.Equal(m.Entries, old.Entries),
	}
	if !same[kind] {
		x.fail("P1: it changes in another way", kind, old, m)
	}
	x.seen[fmt.Sprint("change ", kind)]++
	for _, e := range m.Entries {
		if _, ok := manifest.Find(old, e.Key); !ok && e.Born < m.Fence {
			x.fail("P4: older than the fence", e, m.Fence)
		}
	}
}

// adds: does a manifest only add blocks, of whole batches that were taken in?
func (x *watcher) adds(old, m api.Manifest) bool {
	var more []api.Row
	for _, e := range m.Entries {
		if had, ok := manifest.Find(old, e.Key); !ok {
			more = append(more, x.rows[e.Key]...)
		} else if had != e {
			return false
		}
	}
	for _, e := range old.Entries {
		if _, ok := manifest.Find(m, e.Key); !ok {
			return false
		}
	}
	return x.whole(more, m.Cut)
}

// whole: are rows whole batches that were taken in, but for what is below the cut?
func (x *watcher) whole(l []api.Row, cut int) bool {
	batches := map[api.Mark][]api.Row{}
	for _, y := range l {
		k := api.Mark{Maker: y.Maker, Seq: y.Seq}
		batches[k] = append(batches[k], y)
	}
	for k, rows := range batches {
		taken := slices.ContainsFunc(x.w.Taken(), func(y api.Taken) bool {
			return y.Err == api.OK && y.Batch.Maker == k.Maker && y.Batch.Seq == k.Seq && sameRows(x.uncut(record.Rows(y.Batch), cut), record.Sort(rows))
		})
		if !taken {
			return false
		}
	}
	return true
}

// told holds P3 and P6: what was told stays so, and is one of those that may be.
func (x *watcher) told() {
	x.t.Helper()
	l := x.w.Taken()
	once := map[api.Mark]int{}
	for i, y := range l {
		if i < len(x.taken) && x.taken[i].Told && !reflect.DeepEqual(x.taken[i], y) {
			x.fail("P3: told again", x.taken[i], y)
		}
		right := map[api.Errno]bool{api.OK: true, api.ErrForm: true, api.ErrBig: true, api.ErrDup: true, api.ErrBusy: true}
		outcome := map[api.Errno]bool{api.OK: true, api.ErrDup: true, api.ErrFailed: true}
		if !right[y.Err] || y.Told && (y.Err != api.OK || !outcome[y.Outcome]) {
			x.fail("P3: another answer", y)
		}
		if k := (api.Mark{Maker: y.Batch.Maker, Seq: y.Batch.Seq}); y.Told && y.Outcome == api.OK {
			if once[k]++; once[k] > 1 {
				x.fail("P3: it counts twice", y)
			}
		}
	}
	x.taken = l
	a := x.w.Asked()
	for i, y := range a {
		if !y.Told || i < len(x.asked) && x.asked[i].Told {
			continue
		}
		x.seen[fmt.Sprint("answer ", int(y.Answer.Err))]++
		x.answered(y)
	}
	x.asked = a
}

// answered holds P6: an answer is whole, or says that it isn't.
func (x *watcher) answered(y api.Asked) {
	x.t.Helper()
	m := x.read[y.Agent]
	switch y.Answer.Err {
	case api.OK:
		if y.Answer.Gen != m.Gen || !sameRows(y.Answer.Rows, query.Answer(y.Q, x.all(m))) {
			x.fail("P6: an answer isn't whole", y, m)
		}
	case api.ErrExpired:
		gone := slices.ContainsFunc(m.Entries, func(e api.Entry) bool {
			return x.w.Store().Do(api.Call{Kind: api.Get, Key: e.Key}).Err == api.ErrNone
		})
		if !gone || len(y.Answer.Rows) != 0 || y.Answer.Gen != m.Gen {
			x.fail("P6: nothing has gone", y)
		}
	case api.ErrFailed:
		if len(y.Answer.Rows) != 0 {
			x.fail("P6: rows beside an error", y)
		}
	default:
		x.fail("P6: another answer", y)
	}
}

// kept holds P2: what was told OK is there, and what is there is whole batches that were taken in.
func (x *watcher) kept() {
	x.t.Helper()
	all := x.all(x.m)
	for _, y := range x.w.Taken() {
		if !y.Told || y.Outcome != api.OK {
			continue
		}
		x.seen["ok"]++
		of := slices.DeleteFunc(slices.Clone(all), func(z api.Row) bool { return z.Maker != y.Batch.Maker || z.Seq != y.Batch.Seq })
		if !sameRows(x.uncut(record.Rows(y.Batch), x.m.Cut), of) {
			x.fail("P2: what was told OK isn't there", y)
		}
	}
	if !x.whole(all, x.m.Cut) {
		x.fail("P2: something is made up")
	}
}

// settles holds P7: if nothing goes wrong any more, it settles.
func (x *watcher) settles() {
	x.t.Helper()
	x.do(api.Op{Kind: api.Fate})
	for agent := range x.s.Kinds {
		x.do(api.Op{Kind: api.Start, Agent: agent + 1})
	}
	rounds := 400 + 120*len(x.m.Entries)
	for _, y := range x.w.Taken() {
		if y.Err == api.OK && !y.Told && x.w.Life(y.Agent) == y.Life {
			rounds += 110 + 120*len(y.Batch.Records)
		}
	}
	x.goes(rounds)
	for _, y := range x.w.Taken() {
		if y.Err == api.OK && !y.Told && x.w.Life(y.Agent) == y.Life {
			x.fail("P7: a batch has no outcome", y)
		}
	}
	if keys := merge.Choose(x.m.Entries, x.s.Conf.Small, x.s.Conf.Most); len(keys) != 0 && slices.Contains(x.s.Kinds, api.Compactor) {
		x.fail("P7: two may be put together", keys)
	}
	collector := 1 + slices.Index(x.s.Kinds, api.Collector)
	if collector == 0 {
		return
	}
	x.do(api.Op{Kind: api.Tick, N: x.s.Conf.Grace + 1})
	x.do(api.Op{Kind: api.Begin, Agent: collector})
	for range 2000 {
		x.do(api.Op{Kind: api.Step, Agent: collector})
		if x.w.Idle(collector) {
			break
		}
	}
	want := []string{api.ManifestKey}
	for _, e := range x.m.Entries {
		want = append(want, e.Key)
	}
	slices.Sort(want)
	if s := x.w.Store(); !slices.Equal(s.Keys(), want) || len(s.Uploads()) != 0 {
		x.fail("P7: something else is there", s.Keys(), want, s.Uploads())
	}
	x.seen["settled"]++
}

// goes lets all agents step in turn; it stops sooner, once nothing is left to do but looking.
func (x *watcher) goes(rounds int) {
	x.t.Helper()
	quiet := 0
	for range rounds {
		gen := x.m.Gen
		for agent := range x.s.Kinds {
			x.do(api.Op{Kind: api.Step, Agent: agent + 1})
		}
		x.do(api.Op{Kind: api.Tick, N: 1})
		quiet++
		busy := false
		for agent, kind := range x.s.Kinds {
			busy = busy || kind != api.Compactor && !x.w.Idle(agent+1)
		}
		if busy || x.m.Gen != gen {
			quiet = 0
		}
		if quiet > 200 {
			return
		}
	}
}

// random is a script in which much happens.
func random(r *rand.Rand, k int) []byte {
	b := []byte{byte(r.Intn(256)), byte(k)}
	kinds := script.Decode(b).Kinds
	able := map[int]int{6: api.Archiver, 8: api.Archiver, 9: api.Retainer, 10: api.Collector, 11: api.Reader}
	calm := 1 + r.Intn(12)
	for range 120 {
		o := []int{15, 15, 15, 15, 15, 6, 6, 6, 8, 10, 11, 11, 0, 1, 5, 9, 12, 13, 14}[r.Intn(19)]
		if (o == 12 || o == 5 || o == 9) && r.Intn(calm) > 0 {
			o = 13
		}
		agent := r.Intn(256)
		if kind, ok := able[o]; ok && slices.Contains(kinds, kind) {
			// One that this may happen to.
			for agent = r.Intn(len(kinds)); kinds[agent] != kind; {
				agent = r.Intn(len(kinds))
			}
		}
		x := r.Intn(256)
		if o == 9 {
			x = r.Intn(4)
		}
		b = append(b, byte(o), byte(agent), byte(x), byte(r.Intn(256)))
	}
	return b
}

func TestP1ToP7(t *testing.T) {
	runs := 80
	if testing.Short() {
		runs = 20
	}
	seen := map[string]int{}
	for seed := range runs {
		r := rand.New(rand.NewSource(int64(seed)))
		s := script.Decode(random(r, 7+8*r.Intn(8)))
		x := watch(t, s)
		for _, o := range s.Ops {
			x.do(o)
		}
		x.kept()
		x.settles()
		x.kept()
		for what, n := range x.seen {
			seen[what] += n
		}
	}
	for _, what := range []string{"change 1", "change 2", "change 3", "change 4", "answer 0", "ok", "settled"} {
		if seen[what] < runs/8 {
			t.Error("seldom seen:", what, seen)
		}
	}
}

func TestP1AnyBytes(t *testing.T) {
	for seed := range 100 {
		r := rand.New(rand.NewSource(int64(seed)))
		b := make([]byte, 2+4*r.Intn(121))
		r.Read(b)
		s := script.Decode(b)
		x := watch(t, s)
		for _, o := range s.Ops {
			x.do(o)
		}
		x.kept()
		x.settles()
	}
}
