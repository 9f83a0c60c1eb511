package manifest_test

import (
	"bytes"
	"fmt"
	"math"
	"math/rand"
	"slices"
	"strings"
	"testing"

	"entrepot/api"
	"entrepot/crc"
	"entrepot/manifest"
	"entrepot/nums"
)

func entry(key string, window int) api.Entry {
	return api.Entry{Key: key, Window: window, Part: "{}", First: 10 * window, Last: 10*window + 9, Rows: 3, Size: 99, Sum: 7, Born: 5}
}

func base() api.Manifest {
	return api.Manifest{
		Gen: 4, Cut: 2, Fence: 3,
		Entries: []api.Entry{entry("b/1", 2), entry("b/2", 3), entry("b/3", 9)},
		Marks:   []api.Mark{{Maker: 1, Seq: 5}, {Maker: 3, Seq: 1}},
		Owners:  []api.Owner{{Agent: 1, Life: 2, Count: 3}, {Agent: 4, Life: 4, Count: 1}},
	}
}

func edit() api.Edit { return api.Edit{By: api.Owner{Agent: 2, Life: 2, Count: 1}} }

func same(a, b api.Manifest) bool {
	return a.Gen == b.Gen && a.Cut == b.Cut && a.Fence == b.Fence && slices.Equal(a.Entries, b.Entries) && slices.Equal(a.Marks, b.Marks) && slices.Equal(a.Owners, b.Owners)
}

// deep is a manifest with memory of its own.
func deep(m api.Manifest) api.Manifest {
	m.Entries, m.Marks, m.Owners = slices.Clone(m.Entries), slices.Clone(m.Marks), slices.Clone(m.Owners)
	return m
}

// manyEntries are so many entries with rising keys.
func manyEntries(n int) []api.Entry {
	var l []api.Entry
	for i := range n {
		l = append(l, entry(fmt.Sprintf("k%04d", i), 5))
	}
	return l
}

// spelled are a manifest's bytes by the chapter, right or not.
func spelled(m api.Manifest) []byte {
	b := []byte("MANI\x01")
	put := func(l ...int) {
		for _, n := range l {
			b = append(b, nums.PutU(uint64(n))...)
		}
	}
	text := func(s string) {
		put(len(s))
		b = append(b, s...)
	}
	put(m.Gen, m.Cut, m.Fence, len(m.Entries))
	for _, e := range m.Entries {
		text(e.Key)
		put(e.Window)
		text(e.Part)
		put(e.First, e.Last, e.Rows, e.Size, int(e.Sum), e.Born)
	}
	put(len(m.Marks))
	for _, x := range m.Marks {
		put(x.Maker, x.Seq)
	}
	put(len(m.Owners))
	for _, x := range m.Owners {
		put(x.Agent, x.Life, x.Count)
	}
	return crc.Seal(b)
}

// entryChanges make an entry wrong, or leave it right.
func entryChanges() (wrong, right []func(*api.Entry)) {
	wrong = []func(*api.Entry){
		func(e *api.Entry) { e.Key = "" }, func(e *api.Entry) { e.Key = strings.Repeat("k", api.MaxKey+1) }, func(e *api.Entry) { e.Key = "a b" }, func(e *api.Entry) { e.Key = "a\x7f" }, func(e *api.Entry) { e.Key = "é" },
		func(e *api.Entry) { e.Window = -1 }, func(e *api.Entry) { e.Window = api.MaxNum }, func(e *api.Entry) { e.Part = "" }, func(e *api.Entry) { e.Part = "{" }, func(e *api.Entry) { e.Part = `{a="\41"}` },
		func(e *api.Entry) { e.First = -1 }, func(e *api.Entry) { e.First = e.Last + 1 }, func(e *api.Entry) { e.Last = api.MaxNum }, func(e *api.Entry) { e.Last = math.MaxInt },
		func(e *api.Entry) { e.Rows = 0 }, func(e *api.Entry) { e.Rows = api.MaxRows + 1 }, func(e *api.Entry) { e.Size = 0 }, func(e *api.Entry) { e.Size = api.MaxData + 1 }, func(e *api.Entry) { e.Born = -1 }, func(e *api.Entry) { e.Born = api.MaxNum },
	}
	right = []func(*api.Entry){
		func(e *api.Entry) {}, func(e *api.Entry) { e.Key = strings.Repeat("z", api.MaxKey) }, func(e *api.Entry) { e.Key = "z!~" }, func(e *api.Entry) { e.Window = api.MaxNum - 1 }, func(e *api.Entry) { e.Part = `{a="\22",b=""}` },
		func(e *api.Entry) { e.First = 0 }, func(e *api.Entry) { e.First = e.Last }, func(e *api.Entry) { e.Last = api.MaxNum - 1 }, func(e *api.Entry) { e.Rows = 1 }, func(e *api.Entry) { e.Rows = api.MaxRows },
		func(e *api.Entry) { e.Size = 1 }, func(e *api.Entry) { e.Size = api.MaxData }, func(e *api.Entry) { e.Sum = math.MaxUint32 }, func(e *api.Entry) { e.Born = api.MaxNum - 1 },
	}
	return wrong, right
}

// wrongManifests aren't right, rightManifests are.
func wrongManifests() []api.Manifest {
	var l []api.Manifest
	change := func(f func(*api.Manifest)) {
		m := base()
		f(&m)
		l = append(l, m)
	}
	wrong, _ := entryChanges()
	for _, f := range wrong {
		change(func(m *api.Manifest) { f(&m.Entries[2]) })
	}
	for _, n := range []int{-1, api.MaxNum} {
		change(func(m *api.Manifest) { m.Gen = n })
		change(func(m *api.Manifest) { m.Cut = n })
		change(func(m *api.Manifest) { m.Fence = n })
	}
	l = append(l, api.Manifest{Cut: api.MaxNum}, api.Manifest{Cut: math.MaxInt})
	change(func(m *api.Manifest) { m.Cut = 3 })
	change(func(m *api.Manifest) { m.Entries = manyEntries(api.MaxEntries + 1) })
	change(func(m *api.Manifest) { m.Entries[1].Key = "b/1" })
	change(func(m *api.Manifest) { m.Entries[1].Key = "b/0" })
	change(func(m *api.Manifest) { m.Marks[1].Maker = 1 })
	change(func(m *api.Manifest) { m.Marks[0].Maker = 4 })
	change(func(m *api.Manifest) { m.Marks[1].Maker = api.MaxMakers + 1 })
	change(func(m *api.Manifest) { m.Marks[0].Maker = 0 })
	change(func(m *api.Manifest) { m.Marks[0].Seq = 0 })
	change(func(m *api.Manifest) { m.Marks[0].Seq = api.MaxNum })
	change(func(m *api.Manifest) { m.Owners[1].Agent = 1 })
	change(func(m *api.Manifest) { m.Owners[0].Agent = 5 })
	change(func(m *api.Manifest) { m.Owners[0].Agent = 0 })
	change(func(m *api.Manifest) { m.Owners[1].Agent = api.MaxAgents + 1 })
	for _, n := range []int{0, api.MaxNum, -1} {
		change(func(m *api.Manifest) { m.Owners[0].Life = n })
		change(func(m *api.Manifest) { m.Owners[0].Count = n })
	}
	return l
}

func rightManifests() []api.Manifest {
	full := api.Manifest{Gen: api.MaxNum - 1, Cut: 5, Fence: api.MaxNum - 1, Entries: manyEntries(api.MaxEntries)}
	for i := range api.MaxMakers {
		full.Marks = append(full.Marks, api.Mark{Maker: 1 + i, Seq: api.MaxNum - 1})
	}
	for i := range api.MaxAgents {
		full.Owners = append(full.Owners, api.Owner{Agent: 1 + i, Life: api.MaxNum - 1, Count: api.MaxNum - 1})
	}
	l := []api.Manifest{{}, base(), full, {Cut: api.MaxNum - 1}, {Gen: 7}, {Fence: 7}}
	_, right := entryChanges()
	for _, f := range right {
		m := base()
		f(&m.Entries[2])
		l = append(l, m)
	}
	return l
}

func TestP13_1Right(t *testing.T) {
	for i, m := range rightManifests() {
		if !manifest.Right(m) {
			t.Error("right", i)
		}
		if b, e := manifest.Encode(m); e != api.OK || !bytes.Equal(b, spelled(m)) {
			t.Error("its bytes", i, e)
		}
	}
	for i, m := range wrongManifests() {
		if manifest.Right(m) {
			t.Error("wrong", i)
		}
		if b, e := manifest.Encode(m); e != api.ErrForm || len(b) != 0 {
			t.Error("bytes of what is wrong", i, e)
		}
	}
}

func TestP13_1Decode(t *testing.T) {
	for i, m := range wrongManifests() {
		if got, e := manifest.Decode(spelled(m)); e != api.ErrForm || !same(got, api.Manifest{}) {
			t.Error("wrong", i, e)
		}
	}
	good := spelled(base())
	plain := good[:len(good)-4]
	sealed := func(f func([]byte) []byte) []byte { return crc.Seal(f(bytes.Clone(plain))) }
	turned := bytes.Clone(good)
	turned[7] ^= 4
	for i, x := range []struct {
		b []byte
		e api.Errno
	}{
		{nil, api.ErrShort}, {[]byte("abc"), api.ErrShort}, {turned, api.ErrSum}, {good[1:], api.ErrSum}, {good, api.OK}, {crc.Seal(nil), api.ErrForm}, {crc.Seal([]byte("MANI")), api.ErrForm},
		{sealed(func(b []byte) []byte { return append(b, 0) }), api.ErrForm}, {sealed(func(b []byte) []byte { return b[:len(b)-1] }), api.ErrForm}, {sealed(func(b []byte) []byte { b[0] = 'm'; return b }), api.ErrForm}, {sealed(func(b []byte) []byte { b[4] = 2; return b }), api.ErrForm},
		{sealed(func(b []byte) []byte { return slices.Insert(b, 6, 0) }), api.ErrForm}, {sealed(func(b []byte) []byte { return slices.Replace(b, 5, 6, 0x84, 0) }), api.ErrForm}, {sealed(func([]byte) []byte { return []byte("MANI\x01\x00\x00\x00\x00\x00\x00") }), api.OK},
	} {
		m, e := manifest.Decode(x.b)
		if e != x.e || e != api.OK && !same(m, api.Manifest{}) {
			t.Error(i, e, "not", x.e)
		}
	}
	b := bytes.Replace(plain, []byte{99, 7, 5}, append([]byte{99}, append(nums.PutU(1<<32), 5)...), 1)
	if m, e := manifest.Decode(crc.Seal(b)); e != api.ErrForm || !same(m, api.Manifest{}) {
		t.Error("a sum beyond 32 bits", e)
	}
}

// model applies an edit by the chapter, step by step; it is nil beside an error.
func model(m api.Manifest, d api.Edit) (api.Manifest, api.Errno) {
	var none api.Manifest
	for _, o := range m.Owners {
		if o.Agent == d.By.Agent && (o.Life > d.By.Life || o.Life == d.By.Life && o.Count >= d.By.Count) {
			return none, api.ErrVer
		}
	}
	for _, x := range d.Marks {
		for _, y := range m.Marks {
			if x.Maker == y.Maker && x.Seq <= y.Seq {
				return none, api.ErrDup
			}
		}
	}
	has := func(key string) bool {
		return slices.ContainsFunc(m.Entries, func(e api.Entry) bool { return e.Key == key })
	}
	for _, key := range d.Drop {
		if !has(key) {
			return none, api.ErrLost
		}
	}
	for _, e := range d.Add {
		if e.Born < m.Fence || e.Born < d.Fence {
			return none, api.ErrFence
		}
	}
	for _, e := range d.Add {
		if has(e.Key) && !slices.Contains(d.Drop, e.Key) {
			return none, api.ErrExist
		}
	}
	n := api.Manifest{Gen: m.Gen + 1, Cut: max(m.Cut, d.Cut), Fence: max(m.Fence, d.Fence)}
	for _, e := range append(slices.Clone(m.Entries), d.Add...) {
		old := slices.Contains(d.Drop, e.Key) && slices.Contains(m.Entries, e) && !slices.Contains(d.Add, e)
		if !old && e.Window >= n.Cut {
			n.Entries = append(n.Entries, e)
		}
	}
	slices.SortFunc(n.Entries, func(a, b api.Entry) int { return strings.Compare(a.Key, b.Key) })
	for maker := 1; maker <= api.MaxMakers; maker++ {
		greatest := 0
		for _, x := range append(slices.Clone(m.Marks), d.Marks...) {
			if x.Maker == maker {
				greatest = max(greatest, x.Seq)
			}
		}
		if greatest > 0 {
			n.Marks = append(n.Marks, api.Mark{Maker: maker, Seq: greatest})
		}
	}
	for agent := 1; agent <= api.MaxAgents; agent++ {
		if d.By.Agent == agent {
			n.Owners = append(n.Owners, d.By)
			continue
		}
		for _, o := range m.Owners {
			if o.Agent == agent {
				n.Owners = append(n.Owners, o)
			}
		}
	}
	return n, api.OK
}

// random is an edit of a manifest, that may do or not.
func random(r *rand.Rand, m api.Manifest) api.Edit {
	d := api.Edit{By: api.Owner{Agent: 1 + r.Intn(3), Life: 1 + r.Intn(2), Count: 1 + m.Gen/2 + r.Intn(6)}}
	for range r.Intn(3) {
		e := entry(fmt.Sprint("b/", r.Intn(30)), r.Intn(12))
		e.Born, e.Sum = m.Fence+r.Intn(9)-1, r.Uint32()
		e.Born = max(0, e.Born)
		if !slices.ContainsFunc(d.Add, func(x api.Entry) bool { return x.Key == e.Key }) {
			d.Add = append(d.Add, e)
		}
	}
	for _, e := range m.Entries {
		if r.Intn(6) == 0 {
			d.Drop = append(d.Drop, e.Key)
		}
	}
	if r.Intn(10) == 0 {
		d.Drop = append(d.Drop, "gone")
	}
	for maker := 1; maker <= 3; maker++ {
		for seq := manifest.Mark(m, maker) + r.Intn(3); r.Intn(4) == 0; seq++ {
			if seq > 0 {
				d.Marks = append(d.Marks, api.Mark{Maker: maker, Seq: seq})
			}
		}
	}
	if r.Intn(4) == 0 {
		d.Cut = max(0, m.Cut+r.Intn(3)-1)
	}
	if r.Intn(4) == 0 {
		d.Fence = max(0, m.Fence+r.Intn(3)-1)
	}
	return d
}

func TestP13_2Apply(t *testing.T) {
	r := rand.New(rand.NewSource(1))
	seen := map[api.Errno]int{}
	for range 150 {
		m := api.Manifest{}
		for range 40 {
			d := random(r, m)
			want, we := model(m, d)
			got, e := manifest.Apply(m, d)
			if e != we || !same(got, want) {
				t.Fatal(m, d, got, e, "not", want, we)
			}
			seen[e]++
			if e == api.OK {
				m = got
			}
		}
	}
	for _, e := range []api.Errno{api.OK, api.ErrVer, api.ErrDup, api.ErrLost, api.ErrFence, api.ErrExist} {
		if seen[e] < 5 {
			t.Error("seldom seen", e, seen[e])
		}
	}
}

func TestP13_2Form(t *testing.T) {
	wrong, right := entryChanges()
	check := func(name string, m api.Manifest, d api.Edit, want api.Errno) {
		t.Helper()
		if got, e := manifest.Apply(m, d); e != want || e != api.OK && !same(got, api.Manifest{}) {
			t.Error(name, e, "not", want)
		}
	}
	for i, f := range wrong {
		d, e := edit(), entry("z", 9)
		f(&e)
		d.Add = []api.Entry{entry("y", 9), e}
		check(fmt.Sprint("a wrong entry ", i), base(), d, api.ErrForm)
	}
	for i, f := range right {
		d, e := edit(), entry("z", 9)
		f(&e)
		d.Add = []api.Entry{e, entry("a", 9)}
		check(fmt.Sprint("a right entry ", i), base(), d, api.OK)
	}
	for i, m := range wrongManifests() {
		check(fmt.Sprint("a wrong manifest ", i), m, edit(), api.ErrForm)
	}
	for i, x := range []struct {
		change func(*api.Edit)
		e      api.Errno
	}{
		{func(d *api.Edit) {}, api.OK}, {func(d *api.Edit) { d.Add = []api.Entry{entry("z", 9), entry("y", 9), entry("z", 8)} }, api.ErrForm}, {func(d *api.Edit) { d.Add = []api.Entry{entry("z", 9), entry("y", 9)} }, api.OK},
		{func(d *api.Edit) { d.Drop = []string{"b/3", "b/1"} }, api.OK}, {func(d *api.Edit) { d.Drop = []string{"b/3", "b/1", "b/3"} }, api.ErrForm}, {func(d *api.Edit) { d.Drop = []string{""} }, api.ErrForm}, {func(d *api.Edit) { d.Drop = []string{"a b"} }, api.ErrForm}, {func(d *api.Edit) { d.Drop = []string{strings.Repeat("k", 41)} }, api.ErrForm},
		{func(d *api.Edit) { d.Marks = []api.Mark{{Maker: 1, Seq: 6}, {Maker: 1, Seq: 8}, {Maker: 2, Seq: 1}} }, api.OK}, {func(d *api.Edit) { d.Marks = []api.Mark{{Maker: 1, Seq: 8}, {Maker: 1, Seq: 6}} }, api.ErrForm}, {func(d *api.Edit) { d.Marks = []api.Mark{{Maker: 1, Seq: 8}, {Maker: 1, Seq: 8}} }, api.ErrForm}, {func(d *api.Edit) { d.Marks = []api.Mark{{Maker: 2, Seq: 8}, {Maker: 1, Seq: 9}} }, api.ErrForm},
		{func(d *api.Edit) { d.Marks = []api.Mark{{Maker: 0, Seq: 6}} }, api.ErrForm}, {func(d *api.Edit) { d.Marks = []api.Mark{{Maker: 65, Seq: 6}} }, api.ErrForm}, {func(d *api.Edit) { d.Marks = []api.Mark{{Maker: 9, Seq: 0}} }, api.ErrForm}, {func(d *api.Edit) { d.Marks = []api.Mark{{Maker: 9, Seq: api.MaxNum}} }, api.ErrForm},
		{func(d *api.Edit) { d.Cut = -1 }, api.ErrForm}, {func(d *api.Edit) { d.Cut = api.MaxNum }, api.ErrForm}, {func(d *api.Edit) { d.Cut = api.MaxNum - 1 }, api.OK}, {func(d *api.Edit) { d.Fence = -1 }, api.ErrForm}, {func(d *api.Edit) { d.Fence = api.MaxNum }, api.ErrForm}, {func(d *api.Edit) { d.Fence = api.MaxNum - 1 }, api.OK},
		{func(d *api.Edit) { d.By.Agent = 0 }, api.ErrForm}, {func(d *api.Edit) { d.By.Agent = 9 }, api.ErrForm}, {func(d *api.Edit) { d.By.Agent = 8 }, api.OK}, {func(d *api.Edit) { d.By.Life = 0 }, api.ErrForm}, {func(d *api.Edit) { d.By.Life = api.MaxNum }, api.ErrForm}, {func(d *api.Edit) { d.By.Count = 0 }, api.ErrForm}, {func(d *api.Edit) { d.By.Count = api.MaxNum }, api.ErrForm},
	} {
		d := edit()
		x.change(&d)
		check(fmt.Sprint("an edit ", i), base(), d, x.e)
	}
}

func TestP13_2Errors(t *testing.T) {
	check := func(name string, m api.Manifest, change func(*api.Edit), want api.Errno) {
		t.Helper()
		d := edit()
		change(&d)
		if got, e := manifest.Apply(m, d); e != want || e != api.OK && !same(got, api.Manifest{}) {
			t.Error(name, e, "not", want)
		}
	}
	check("an older life", base(), func(d *api.Edit) { d.By = api.Owner{Agent: 1, Life: 1, Count: 99} }, api.ErrVer)
	check("the same count", base(), func(d *api.Edit) { d.By = api.Owner{Agent: 1, Life: 2, Count: 3} }, api.ErrVer)
	check("a lesser count", base(), func(d *api.Edit) { d.By = api.Owner{Agent: 1, Life: 2, Count: 2} }, api.ErrVer)
	check("the next count", base(), func(d *api.Edit) { d.By = api.Owner{Agent: 1, Life: 2, Count: 4} }, api.OK)
	check("a newer life", base(), func(d *api.Edit) { d.By = api.Owner{Agent: 1, Life: 3, Count: 1} }, api.OK)
	check("ErrVer ahead of ErrDup", base(), func(d *api.Edit) {
		d.By, d.Marks = api.Owner{Agent: 1, Life: 1, Count: 1}, []api.Mark{{Maker: 1, Seq: 5}}
	}, api.ErrVer)
	check("the same mark", base(), func(d *api.Edit) { d.Marks = []api.Mark{{Maker: 1, Seq: 5}} }, api.ErrDup)
	check("a lesser mark behind", base(), func(d *api.Edit) { d.Marks = []api.Mark{{Maker: 2, Seq: 9}, {Maker: 3, Seq: 1}, {Maker: 3, Seq: 2}} }, api.ErrDup)
	check("ErrDup ahead of ErrLost", base(), func(d *api.Edit) { d.Marks, d.Drop = []api.Mark{{Maker: 1, Seq: 1}}, []string{"gone"} }, api.ErrDup)
	check("a lost key", base(), func(d *api.Edit) { d.Drop = []string{"b/1", "gone"} }, api.ErrLost)
	old := entry("z", 9)
	old.Born = 2
	check("ErrLost ahead of ErrFence", base(), func(d *api.Edit) { d.Drop, d.Add = []string{"gone"}, []api.Entry{old} }, api.ErrLost)
	check("born below the fence", base(), func(d *api.Edit) { d.Add = []api.Entry{entry("y", 9), old} }, api.ErrFence)
	old.Born = 3
	check("born at the fence", base(), func(d *api.Edit) { d.Add = []api.Entry{old} }, api.OK)
	check("born below the edit's fence", base(), func(d *api.Edit) { d.Add, d.Fence = []api.Entry{old}, 4 }, api.ErrFence)
	old.Born = 0
	check("ErrFence ahead of ErrExist", base(), func(d *api.Edit) { d.Add = []api.Entry{entry("b/1", 9), old} }, api.ErrFence)
	check("there is one", base(), func(d *api.Edit) { d.Add = []api.Entry{entry("b/1", 9)} }, api.ErrExist)
	check("there was one", base(), func(d *api.Edit) { d.Add, d.Drop = []api.Entry{entry("b/1", 9)}, []string{"b/1"} }, api.OK)
	last := base()
	last.Gen = api.MaxNum - 1
	check("the last generation", last, func(d *api.Edit) {}, api.ErrRange)
	check("ErrExist ahead of ErrRange", last, func(d *api.Edit) { d.Add = []api.Entry{entry("b/1", 9)} }, api.ErrExist)
	last.Gen--
	check("ahead of the last generation", last, func(d *api.Edit) {}, api.OK)
	full := api.Manifest{Entries: manyEntries(api.MaxEntries)}
	check("one more", full, func(d *api.Edit) { d.Add = []api.Entry{entry("z", 9)} }, api.ErrLong)
	check("one in the place of another", full, func(d *api.Edit) { d.Add, d.Drop = []api.Entry{entry("z", 9)}, []string{"k0001"} }, api.OK)
	check("one more, but cut", full, func(d *api.Edit) { d.Add, d.Cut = []api.Entry{entry("z", 2)}, 3 }, api.OK)
	check("all but one are cut", full, func(d *api.Edit) { d.Add, d.Cut = []api.Entry{entry("z", 9)}, 6 }, api.OK)
	check("many at once", api.Manifest{}, func(d *api.Edit) { d.Add = manyEntries(api.MaxEntries + 1) }, api.ErrLong)
	full.Gen = api.MaxNum - 1
	check("ErrRange ahead of ErrLong", full, func(d *api.Edit) { d.Add = []api.Entry{entry("z", 9)} }, api.ErrRange)
}

func TestP13_2Examples(t *testing.T) {
	d := edit()
	d.Marks = []api.Mark{{Maker: 1, Seq: 5}}
	if _, e := manifest.Apply(api.Manifest{Marks: []api.Mark{{Maker: 1, Seq: 5}}}, d); e != api.ErrDup {
		t.Error("a mark that is already there", e)
	}
	d = edit()
	d.Cut = 3
	m, e := manifest.Apply(api.Manifest{Entries: []api.Entry{entry("a", 2), entry("b", 3)}}, d)
	if e != api.OK || len(m.Entries) != 1 || m.Entries[0].Key != "b" || m.Cut != 3 || m.Gen != 1 {
		t.Error("the cut", m, e)
	}
}

func TestP13_3Look(t *testing.T) {
	m := base()
	for maker, want := range map[int]int{1: 5, 3: 1, 2: 0, 0: 0, -1: 0, math.MaxInt: 0} {
		if manifest.Mark(m, maker) != want {
			t.Error("Mark", maker)
		}
	}
	m.Marks = append(m.Marks, api.Mark{Maker: 1, Seq: 9})
	if manifest.Mark(m, 1) != 5 {
		t.Error("the first mark")
	}
	if e, ok := manifest.Find(m, "b/2"); !ok || e != m.Entries[1] {
		t.Error("Find", e, ok)
	}
	m.Entries = append(m.Entries, entry("b/2", 7))
	if e, ok := manifest.Find(m, "b/2"); !ok || e.Window != 3 {
		t.Error("the first entry", e, ok)
	}
	if e, ok := manifest.Find(m, "b/"); ok || e != (api.Entry{}) {
		t.Error("there is none", e, ok)
	}
	for i, x := range []struct {
		by   api.Owner
		want bool
	}{
		{api.Owner{Agent: 1, Life: 2, Count: 3}, true}, {api.Owner{Agent: 1, Life: 2, Count: 2}, true}, {api.Owner{Agent: 1, Life: 2, Count: 4}, false}, {api.Owner{Agent: 1, Life: 1, Count: 1}, false}, {api.Owner{Agent: 1, Life: 3, Count: 1}, false}, {api.Owner{Agent: 2, Life: 2, Count: 3}, false}, {api.Owner{Agent: 4, Life: 4, Count: 1}, true}, {api.Owner{}, false},
	} {
		if manifest.Did(m, x.by) != x.want {
			t.Error("Did", i)
		}
	}
}

func TestP13_4ThereAndBack(t *testing.T) {
	seen := map[string]api.Manifest{}
	all := rightManifests()
	r := rand.New(rand.NewSource(2))
	m := api.Manifest{}
	for range 400 {
		if n, e := manifest.Apply(m, random(r, m)); e == api.OK {
			m = n
			all = append(all, m)
		}
	}
	for i, m := range all {
		b, e := manifest.Encode(m)
		if e != api.OK {
			t.Fatal(i, e)
		}
		if back, e := manifest.Decode(b); e != api.OK || !same(back, m) {
			t.Fatal(i, e)
		}
		if other, ok := seen[string(b)]; ok && !same(other, m) {
			t.Fatal("unlike manifests, the same bytes")
		}
		seen[string(b)] = m
	}
}

func TestP13_4Goes(t *testing.T) {
	r := rand.New(rand.NewSource(3))
	for range 60 {
		m := api.Manifest{}
		for range 60 {
			d := random(r, m)
			n, e := manifest.Apply(m, d)
			if e != api.OK {
				continue
			}
			if !manifest.Right(n) || n.Gen != m.Gen+1 || n.Cut < m.Cut || n.Fence < m.Fence || !manifest.Did(n, d.By) {
				t.Fatal(m, d, n)
			}
			for maker := 1; maker <= api.MaxMakers; maker++ {
				if manifest.Mark(n, maker) < manifest.Mark(m, maker) {
					t.Fatal("a mark has fallen")
				}
			}
			m = n
		}
	}
}

func TestP13_5Memory(t *testing.T) {
	m := base()
	m.Entries = append(m.Entries, entry("zz", 9))[:3]
	m.Marks = append(m.Marks, api.Mark{Maker: 60, Seq: 60})[:2]
	m.Owners = append(m.Owners, api.Owner{Agent: 7, Life: 7, Count: 7})[:2]
	d := api.Edit{Add: []api.Entry{entry("y", 9), entry("x", 9)}, Drop: []string{"b/3", "b/1"}, Marks: []api.Mark{{Maker: 1, Seq: 8}, {Maker: 2, Seq: 2}}, By: api.Owner{Agent: 1, Life: 2, Count: 9}}
	before := deep(m)
	n, e := manifest.Apply(m, d)
	if e != api.OK {
		t.Fatal(e)
	}
	if !same(m, before) || d.Add[0].Key != "y" || d.Drop[0] != "b/3" || m.Entries[:4][3].Key != "zz" || m.Marks[:3][2].Maker != 60 || m.Owners[:3][2].Agent != 7 {
		t.Error("what is handed in is changed")
	}
	for i := range n.Entries {
		n.Entries[i].Key = "q"
	}
	for i := range n.Marks {
		n.Marks[i].Seq = 77
	}
	for i := range n.Owners {
		n.Owners[i].Life = 77
	}
	if !same(m, before) || d.Add[1].Key != "x" || d.Marks[0].Seq != 8 {
		t.Error("an answer shares memory")
	}
	// An edit that changes nothing in a list answers a list of its own, too.
	n, _ = manifest.Apply(m, edit())
	n.Entries[0].Key, n.Marks[0].Seq, n.Owners[0].Life = "q", 77, 77
	if !same(m, before) {
		t.Error("an answer shares memory")
	}
	b, _ := manifest.Encode(m)
	kept := bytes.Clone(b)
	one, _ := manifest.Decode(b)
	one.Entries[0].Key = "q"
	if two, _ := manifest.Decode(b); !same(two, m) || !bytes.Equal(b, kept) {
		t.Error("Decode shares memory")
	}
}
