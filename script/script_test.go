package script_test

import (
	"fmt"
	"math/rand"
	"reflect"
	"slices"
	"strings"
	"testing"

	"entrepot/api"
	"entrepot/archive"
	"entrepot/query"
	"entrepot/record"
	"entrepot/script"
	"entrepot/world"
)

// pick is the text at a place of a list.
func pick(i int, l ...string) string { return l[i] }

// wantConf is the configuration of h, by the chapter.
func wantConf(h int) api.Conf {
	c := api.Conf{Window: 10 + 10*(h%4), Group: 1 + h%5, Buffer: 4 + h%13, Flush: 1 + h%6, Age: h % 8, Piece: 40 + 8*(h%16), Tries: 1 + (h/16)%8, Wait: h % 4, Small: 2 + h%9, Most: 6 + h%12, Grace: h % 12}
	if by := pick((h/4)%3, "", "svc", "host svc"); by != "" {
		c.By = strings.Split(by, " ")
	}
	return c
}

func TestP25_1World(t *testing.T) {
	row := []int{api.Archiver, api.Collector, api.Compactor, api.Reader, api.Retainer, api.Archiver, api.Compactor, api.Reader}
	for h := range 256 {
		s := script.Decode([]byte{byte(h)})
		if !reflect.DeepEqual(s.Conf, wantConf(h)) || !slices.Equal(s.Kinds, []int{api.Archiver}) || len(s.Ops) != 0 {
			t.Error(h, s)
		}
		if !archive.Fits(s.Conf) {
			t.Error("it doesn't fit", h)
		}
	}
	for k := range 256 {
		want := []int{api.Archiver}
		for i := 2; i <= 1+k%8; i++ {
			want = append(want, row[(i-1+k/8)%8])
		}
		if s := script.Decode([]byte{7, byte(k)}); !slices.Equal(s.Kinds, want) || !reflect.DeepEqual(s.Conf, wantConf(7)) || len(s.Ops) != 0 {
			t.Error(k, s.Kinds, want)
		}
	}
	if s := script.Decode(nil); !reflect.DeepEqual(s.Conf, wantConf(0)) || !slices.Equal(s.Kinds, []int{api.Archiver}) || len(s.Ops) != 0 {
		t.Error("no bytes", s)
	}
}

// wantBatch is the batch of x, y, by the chapter.
func wantBatch(x, y int) api.Batch {
	b := api.Batch{Maker: 1 + x%4, Seq: 1 + x/4}
	for i := 0; i < 1+y%3; i++ {
		r := api.Record{Time: (7*x + 13*y + 11*i) % 80}
		if (y/4)%2 == 1 {
			r.Labels = append(r.Labels, api.Label{Name: "host", Value: pick(y%2, "h1", "h2")})
		}
		r.Labels = append(r.Labels, api.Label{Name: "svc", Value: pick((x+i)/2%2, "web", "db")})
		if (x+i)%2 == 0 {
			r.Kind = api.Log
			r.Text = pick((y+i)%4, "", "up", "down", "x")
		} else if r.Kind = api.Metric; (y+i)%5 == 0 {
			r.Null = true
		} else {
			r.Value = 10*x - y + i
		}
		b.Records = append(b.Records, r)
	}
	return b
}

// wantQuery is the query of x, y, by the chapter.
func wantQuery(x, y int) api.Query {
	q := api.Query{From: x % 50, To: x%50 + y%70, Limit: y % 5, Texts: y%2 == 0}
	matchers := []api.Matcher{{}, {Name: "svc", Way: api.Is, Value: "web"}, {Name: "svc", Way: api.Begins, Value: "d"}, {Name: "host", Way: api.Has}}
	if x%4 > 0 {
		q.Match = matchers[x%4 : x%4+1]
	}
	return q
}

// wantOps are the ops of four bytes with n agents, by the chapter.
func wantOps(n, o, a, x, y int) []api.Op {
	agent := 1 + a%(n+1)
	var l []api.Op
	switch o % 16 {
	case 0, 1, 2, 3, 4:
		return slices.Repeat([]api.Op{{Kind: api.Step, Agent: agent}}, 1+x%8)
	case 5:
		return []api.Op{{Kind: api.Fate, N: 1 + x%4}}
	case 6, 7:
		return []api.Op{{Kind: api.Submit, Agent: agent, Batch: wantBatch(x, y)}}
	case 8:
		return []api.Op{{Kind: api.Flush, Agent: agent}}
	case 9:
		return []api.Op{{Kind: api.Wish, Agent: agent, N: x % 16}}
	case 10:
		return []api.Op{{Kind: api.Begin, Agent: agent}}
	case 11:
		return []api.Op{{Kind: api.Ask, Agent: agent, Q: wantQuery(x, y)}}
	case 12:
		return []api.Op{{Kind: api.Crash, Agent: agent}}
	case 13:
		return []api.Op{{Kind: api.Start, Agent: agent}}
	case 14:
		return []api.Op{{Kind: api.Tick, N: x % 32}}
	}
	for i := 0; i < 1+x%4; i++ {
		for k := 1; k <= n; k++ {
			l = append(l, api.Op{Kind: api.Step, Agent: k})
		}
		l = append(l, api.Op{Kind: api.Tick, N: 1})
	}
	return l
}

// same: are ops the same, nil and empty lists alike?
func same(a, b []api.Op) bool { return fmt.Sprintf("%+v", a) == fmt.Sprintf("%+v", b) }

func TestP25_1Ops(t *testing.T) {
	r := rand.New(rand.NewSource(1))
	for range 3000 {
		b := make([]byte, 2+4*r.Intn(12)+r.Intn(4))
		r.Read(b)
		var want []api.Op
		for i := 2; i+4 <= len(b); i += 4 {
			want = append(want, wantOps(1+int(b[1])%8, int(b[i]), int(b[i+1]), int(b[i+2]), int(b[i+3]))...)
		}
		s := script.Decode(b)
		if !same(s.Ops, want) || !reflect.DeepEqual(s.Conf, wantConf(int(b[0]))) {
			t.Fatalf("% x: %+v, not %+v", b, s.Ops, want)
		}
	}
	for x := range 256 {
		for y := range 256 {
			s := script.Decode([]byte{0, 0, 6, 0, byte(x), byte(y), 11, 0, byte(x), byte(y)})
			if !same(s.Ops, []api.Op{{Kind: api.Submit, Agent: 1, Batch: wantBatch(x, y)}, {Kind: api.Ask, Agent: 1, Q: wantQuery(x, y)}}) {
				t.Fatal(x, y, s.Ops)
			}
			if record.Check(s.Ops[0].Batch) != api.OK || !query.Right(s.Ops[1].Q) {
				t.Fatal("it isn't right", x, y)
			}
		}
	}
}

func TestP25_1Play(t *testing.T) {
	if script.Play(script.Script{}) != nil || script.Play(script.Script{Conf: wantConf(0), Kinds: []int{9}, Ops: []api.Op{{Kind: api.Tick, N: 1}}}) != nil {
		t.Error("there is no such world")
	}
	r := rand.New(rand.NewSource(2))
	for range 50 {
		b := make([]byte, 2+4*r.Intn(80))
		r.Read(b)
		s := script.Decode(b)
		w := world.New(s.Conf, s.Kinds)
		for _, o := range s.Ops {
			w.Do(o)
		}
		p := script.Play(s)
		if fmt.Sprint(p.Made(), p.Taken(), p.Asked(), p.Manifest()) != fmt.Sprint(w.Made(), w.Taken(), w.Asked(), w.Manifest()) {
			t.Fatalf("% x is another world", b)
		}
	}
}

func TestP25_1Examples(t *testing.T) {
	if s := script.Report(script.Play(script.Decode(nil))); s != "gen 0 cut 0 fence 0 blocks 0\n" {
		t.Errorf("no bytes: %q", s)
	}
	if s := script.Report(script.Play(script.Decode([]byte{0, 0, 6, 0, 0, 0, 8, 0, 0, 0}))); s != "gen 0 cut 0 fence 0 blocks 0\nbatch 1.1 at 1.1 open\n" {
		t.Errorf("Submit, Flush: %q", s)
	}
	if script.Report(nil) != "" {
		t.Error("a nil world")
	}
}

func TestP25_1Report(t *testing.T) {
	c := wantConf(16 + 1)
	w := world.New(c, []int{api.Archiver, api.Reader, api.Retainer, api.Collector, api.Archiver})
	do := func(l ...api.Op) {
		for _, o := range l {
			w.Do(o)
		}
	}
	steps := func(agent, n int) {
		for range n {
			do(api.Op{Kind: api.Step, Agent: agent}, api.Op{Kind: api.Tick, N: 1})
		}
	}
	submit := func(agent int, b api.Batch) { do(api.Op{Kind: api.Submit, Agent: agent, Batch: b}) }
	submit(1, wantBatch(0, 0))
	do(api.Op{Kind: api.Flush, Agent: 1})
	steps(1, 20)
	submit(1, wantBatch(0, 0))
	submit(1, api.Batch{})
	submit(5, wantBatch(0, 0))
	submit(5, wantBatch(0, 0))
	steps(5, 20)
	submit(5, api.Batch{Maker: 2, Seq: 9, Records: make([]api.Record, 65)})
	submit(1, wantBatch(4, 0))
	do(api.Op{Kind: api.Flush, Agent: 1}, api.Op{Kind: api.Fate, N: api.Lost})
	steps(1, 1)
	do(api.Op{Kind: api.Fate, N: api.Lost})
	steps(1, 20)
	submit(5, wantBatch(9, 1))
	all := api.Query{To: api.MaxNum}
	do(api.Op{Kind: api.Ask, Agent: 2, Q: all})
	steps(2, 20)
	do(api.Op{Kind: api.Ask, Agent: 2, Q: all})
	do(api.Op{Kind: api.Fate, N: api.Lost})
	steps(2, 1)
	do(api.Op{Kind: api.Fate, N: api.Lost})
	steps(2, 20)
	do(api.Op{Kind: api.Ask, Agent: 2, Q: all})
	steps(2, 1)
	do(api.Op{Kind: api.Wish, Agent: 3, N: 1})
	steps(3, 9)
	do(api.Op{Kind: api.Begin, Agent: 4})
	steps(4, 20)
	steps(2, 9)
	do(api.Op{Kind: api.Crash, Agent: 2}, api.Op{Kind: api.Start, Agent: 2}, api.Op{Kind: api.Ask, Agent: 2, Q: all})
	m := w.Manifest()
	want := fmt.Sprintf("gen 3 cut 1 fence %d blocks 0\n", m.Fence) +
		"batch 1.1 at 1.1 ok\nbatch 1.1 at 1.1 dup\nbatch 0.0 at 1.1 form\nbatch 1.1 at 5.5 dup\nbatch 1.1 at 5.5 busy\nbatch 2.9 at 5.5 big\nbatch 1.2 at 1.1 failed\nbatch 2.3 at 5.5 open\n" +
		"query at 2.2 ok 1\nquery at 2.2 failed 0\nquery at 2.2 expired 0\nquery at 2.6 open\n"
	if got := script.Report(w); got != want || m.Fence == 0 {
		t.Errorf("%q, not %q", got, want)
	}
}

func TestP25_1ReportOpenQuery(t *testing.T) {
	b := []byte{0, 10, 0, 0, 0, 0, 11, 2, 0, 0}
	if s := script.Report(script.Play(script.Decode(b))); s != "gen 0 cut 0 fence 0 blocks 0\nquery at 3.3 open\n" {
		t.Errorf("begun: %q", s)
	}
	w := world.New(wantConf(0), []int{api.Archiver, api.Reader})
	holds := func(when, want string) {
		t.Helper()
		if _, got, _ := strings.Cut(script.Report(w), "\n"); got != want {
			t.Errorf("%s: %q, not %q", when, got, want)
		}
	}
	do := func(l ...api.Op) {
		for _, o := range l {
			w.Do(o)
		}
	}
	all := api.Query{To: api.MaxNum}
	do(api.Op{Kind: api.Submit, Agent: 1, Batch: wantBatch(0, 0)}, api.Op{Kind: api.Flush, Agent: 1})
	do(slices.Repeat([]api.Op{{Kind: api.Step, Agent: 1}}, 20)...)
	told := "batch 1.1 at 1.1 ok\n"
	do(api.Op{Kind: api.Ask, Agent: 2, Q: all})
	holds("asked", told+"query at 2.2 open\n")
	do(api.Op{Kind: api.Step, Agent: 2}, api.Op{Kind: api.Step, Agent: 2})
	holds("under way", told+"query at 2.2 open\n")
	do(api.Op{Kind: api.Crash, Agent: 2})
	holds("down", told+"query at 2.2 open\n")
	do(api.Op{Kind: api.Start, Agent: 2}, api.Op{Kind: api.Ask, Agent: 2, Q: all})
	holds("in another life", told+"query at 2.2 open\nquery at 2.3 open\n")
	do(slices.Repeat([]api.Op{{Kind: api.Step, Agent: 2}}, 20)...)
	holds("answered", told+"query at 2.2 open\nquery at 2.3 ok 1\n")
	do(api.Op{Kind: api.Ask, Agent: 2, Q: api.Query{From: 900, To: 901}})
	do(slices.Repeat([]api.Op{{Kind: api.Step, Agent: 2}}, 20)...)
	holds("answered without rows", told+"query at 2.2 open\nquery at 2.3 ok 1\nquery at 2.3 ok 0\n")
}

// asksOften is a run of a world with a reader, which is asked again and again.
func asksOften(r *rand.Rand) []byte {
	b := []byte{byte(r.Intn(256)), byte(3 + 8*r.Intn(32))}
	for range 20 + r.Intn(100) {
		o := []byte{6, 8, 11, 11, 12, 13, 15, 15, 15, 5}[r.Intn(10)]
		b = append(b, o, byte(r.Intn(256)), byte(r.Intn(256)), byte(r.Intn(256)))
	}
	return b
}

func TestP25_1ReportQueries(t *testing.T) {
	r := rand.New(rand.NewSource(4))
	words := map[api.Errno]string{api.OK: "ok", api.ErrFailed: "failed", api.ErrExpired: "expired"}
	open, told := 0, 0
	for range 100 {
		b := asksOften(r)
		w := script.Play(script.Decode(b))
		want := ""
		for _, x := range w.Asked() {
			if want += fmt.Sprintf("query at %d.%d ", x.Agent, x.Life); x.Told {
				want += fmt.Sprintf("%s %d\n", words[x.Answer.Err], len(x.Answer.Rows))
				told++
			} else {
				want += "open\n"
				open++
			}
		}
		if got := script.Report(w); !strings.HasSuffix(got, want) || strings.Count(got, "query at ") != len(w.Asked()) {
			t.Fatalf("% x: %q, not %q", b, got, want)
		}
	}
	if open == 0 || told == 0 {
		t.Error("both are to be seen", open, told)
	}
}

func TestP25_2Finite(t *testing.T) {
	b := slices.Repeat([]byte{15, 0, 3, 0}, 200)
	b = append([]byte{0xff, 7}, b...)
	s := script.Decode(b)
	if len(s.Ops) != 4320 || len(s.Kinds) != 8 {
		t.Error("at most 4,320", len(s.Ops))
	}
	r := rand.New(rand.NewSource(3))
	for range 300 {
		b := make([]byte, r.Intn(800))
		r.Read(b)
		s := script.Decode(b)
		if !archive.Fits(s.Conf) || len(s.Kinds) < 1 || len(s.Kinds) > api.MaxAgents || len(s.Ops) > 4320 {
			t.Fatalf("% x", b)
		}
		if len(b) >= 2 {
			cut := 2 + 4*r.Intn((len(b)-2)/4+1)
			first := script.Decode(b[:cut])
			if len(first.Ops) > len(s.Ops) || !same(first.Ops, s.Ops[:len(first.Ops)]) || !reflect.DeepEqual(first.Conf, s.Conf) {
				t.Fatalf("% x: the first ops", b)
			}
			more := append(slices.Clone(b[:cut]), make([]byte, r.Intn(4))...)
			if !same(script.Decode(more).Ops, first.Ops) {
				t.Fatalf("% x: one that isn't whole", more)
			}
		}
	}
	full := make([]byte, 2+4*121)
	for i := range full {
		full[i] = 14
	}
	if s := script.Decode(full); len(s.Ops) != 120 {
		t.Error("of more than 120 the first 120", len(s.Ops))
	}
	if s := script.Decode(full[:2+4*119]); len(s.Ops) != 119 {
		t.Error("119", len(s.Ops))
	}
}

func TestP25_2Memory(t *testing.T) {
	b := []byte{4, 1, 6, 0, 1, 4, 11, 1, 1, 4}
	kept := slices.Clone(b)
	s := script.Decode(b)
	s.Conf.By[0], s.Kinds[0] = "x", 9
	s.Ops[0].Batch.Records[0].Labels[0].Name = "x"
	s.Ops[1].Q.Match[0].Name = "x"
	if again := script.Decode(b); !slices.Equal(b, kept) || again.Conf.By[0] != "svc" || again.Kinds[0] != api.Archiver || again.Ops[0].Batch.Records[0].Labels[0].Name != "host" || again.Ops[1].Q.Match[0].Name != "svc" {
		t.Error("memory is shared")
	}
}
