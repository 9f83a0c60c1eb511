package block_test

import (
	"bytes"
	"fmt"
	"math"
	"math/rand"
	"slices"
	"strings"
	"testing"

	"entrepot/api"
	"entrepot/block"
	"entrepot/column"
	"entrepot/crc"
	"entrepot/label"
	"entrepot/nums"
	"entrepot/record"
)

// some rows, in order.
func some(r *rand.Rand, n int) []api.Row {
	var l []api.Row
	for i := range n {
		x := api.Row{Maker: 1 + r.Intn(api.MaxMakers), Seq: 1 + r.Intn(1000), Place: i % api.MaxBatch}
		x.Time = r.Intn(5000)
		for _, name := range []string{"host", "svc"} {
			if r.Intn(2) == 0 {
				x.Labels = append(x.Labels, api.Label{Name: name, Value: []string{"", "a", "\"b", "c"}[r.Intn(4)]})
			}
		}
		if r.Intn(2) == 0 {
			x.Kind, x.Text = api.Log, strings.Repeat("t", r.Intn(5))
		} else if x.Kind = api.Metric; r.Intn(3) == 0 {
			x.Null = true
		} else {
			x.Value = r.Intn(2000) - 1000
		}
		l = append(l, x)
	}
	return slices.CompactFunc(record.Sort(l), func(a, b api.Row) bool { return record.Compare(a, b) == 0 })
}

func row(time int) api.Row {
	return api.Row{Record: api.Record{Kind: api.Log, Time: time, Text: "x"}, Maker: 1, Seq: 1}
}

func same(a, b []api.Row) bool { return slices.EqualFunc(a, b, record.Same) }

func put(b []byte, l ...int) []byte {
	for _, n := range l {
		b = append(b, nums.PutU(uint64(n))...)
	}
	return b
}

// groupBytes are a group's, by the chapter.
func groupBytes(l []api.Row) []byte {
	var b []byte
	chunk := func(c []byte, e api.Errno) {
		if e != api.OK {
			panic("no column")
		}
		b = append(put(b, len(c)), c...)
	}
	ints := func(f func(api.Row) int) {
		var c []int64
		for _, x := range l {
			c = append(c, int64(f(x)))
		}
		chunk(column.PutInts(c))
	}
	var labels, texts []string
	var nulls []bool
	for _, x := range l {
		s, _ := label.Text(x.Labels)
		labels, texts, nulls = append(labels, s), append(texts, x.Text), append(nulls, x.Null)
	}
	ints(func(x api.Row) int { return x.Time })
	ints(func(x api.Row) int { return x.Maker })
	ints(func(x api.Row) int { return x.Seq })
	ints(func(x api.Row) int { return x.Place })
	ints(func(x api.Row) int { return x.Kind })
	chunk(column.PutWords(labels))
	chunk(column.PutTexts(texts))
	ints(func(x api.Row) int { return x.Value })
	chunk(column.PutFlags(nulls))
	return b
}

// indexBytes are an index's, not sealed.
func indexBytes(x block.Index) []byte {
	b := put(nil, len(x.Spans))
	for _, s := range x.Spans {
		b = put(b, s.At, s.Size, s.Rows, s.First, s.Last)
	}
	b = put(b, len(x.Postings))
	for _, p := range x.Postings {
		b = append(put(b, len(p.Text)), p.Text...)
		b = put(put(b, len(p.Groups)), p.Groups...)
	}
	return b
}

// whole puts a block together of what stands ahead of the index, and an index.
func whole(front []byte, x block.Index) []byte {
	foot := crc.Seal(indexBytes(x))
	b := append(bytes.Clone(front), foot...)
	n := len(foot)
	return append(b, byte(n), byte(n>>8), byte(n>>16), byte(n>>24), 'E', 'N', 'T', 'R')
}

// parts are what a block of rows is made of, by the chapter.
func parts(l []api.Row, per int) ([]byte, block.Index) {
	b := []byte("ENTR\x01")
	var x block.Index
	named := map[string][]int{}
	for i := 0; i*per < len(l); i++ {
		g := l[i*per : min(len(l), (i+1)*per)]
		bs := groupBytes(g)
		x.Spans = append(x.Spans, block.Span{At: len(b), Size: len(bs), Rows: len(g), First: g[0].Time, Last: g[len(g)-1].Time})
		b = append(b, bs...)
		for _, r := range g {
			s, _ := label.Text(r.Labels)
			if !slices.Contains(named[s], i) {
				named[s] = append(named[s], i)
			}
		}
	}
	for s, groups := range named {
		x.Postings = append(x.Postings, block.Posting{Text: s, Groups: groups})
	}
	slices.SortFunc(x.Postings, func(a, b block.Posting) int { return strings.Compare(a.Text, b.Text) })
	return b, x
}

func sameIndex(a, b block.Index) bool {
	return slices.Equal(a.Spans, b.Spans) && slices.EqualFunc(a.Postings, b.Postings, func(p, q block.Posting) bool {
		return p.Text == q.Text && slices.Equal(p.Groups, q.Groups)
	})
}

func TestP11_1Build(t *testing.T) {
	r := rand.New(rand.NewSource(1))
	for range 150 {
		l, per := some(r, 1+r.Intn(60)), 1+r.Intn(20)
		b, e := block.Build(l, per)
		front, x := parts(l, per)
		if e != api.OK || !bytes.Equal(b, whole(front, x)) {
			t.Fatal(len(l), per, e)
		}
	}
}

func TestP11_1Errors(t *testing.T) {
	full := make([]api.Row, 0, api.MaxRows+1)
	for i := range api.MaxRows + 1 {
		full = append(full, row(i))
	}
	bad := func(change func(*api.Row)) []api.Row {
		x := row(5)
		change(&x)
		return []api.Row{row(1), x}
	}
	var heavy []api.Row
	for i := range api.MaxRows {
		x := row(i)
		text := make([]byte, api.MaxText)
		rand.New(rand.NewSource(int64(i))).Read(text)
		x.Text = string(text)
		heavy = append(heavy, x)
	}
	for i, x := range []struct {
		l   []api.Row
		per int
		e   api.Errno
	}{
		{full, 0, api.ErrArg}, {nil, 257, api.ErrArg}, {full[:1], -1, api.ErrArg}, {full[:1], math.MinInt, api.ErrArg}, {full[:1], math.MaxInt, api.ErrArg},
		{full, 1, api.ErrLong}, {append(slices.Clone(full), api.Row{}), 256, api.ErrLong}, {nil, 1, api.ErrForm},
		{full[:1], 1, api.OK}, {full[:1], 256, api.OK}, {full[:api.MaxRows], 256, api.OK},
		{bad(func(x *api.Row) {}), 1, api.OK}, {bad(func(x *api.Row) { x.Kind = 0 }), 1, api.ErrForm}, {bad(func(x *api.Row) { x.Labels = []api.Label{{Name: "A"}} }), 1, api.ErrForm},
		{bad(func(x *api.Row) { x.Maker = 0 }), 1, api.ErrForm}, {bad(func(x *api.Row) { x.Maker = api.MaxMakers }), 1, api.OK}, {bad(func(x *api.Row) { x.Maker = api.MaxMakers + 1 }), 1, api.ErrForm},
		{bad(func(x *api.Row) { x.Seq = 0 }), 1, api.ErrForm}, {bad(func(x *api.Row) { x.Seq = api.MaxNum - 1 }), 1, api.OK}, {bad(func(x *api.Row) { x.Seq = api.MaxNum }), 1, api.ErrForm},
		{bad(func(x *api.Row) { x.Place = -1 }), 1, api.ErrForm}, {bad(func(x *api.Row) { x.Place = api.MaxBatch - 1 }), 1, api.OK}, {bad(func(x *api.Row) { x.Place = api.MaxBatch }), 1, api.ErrForm},
		{[]api.Row{row(2), row(1)}, 1, api.ErrForm}, {[]api.Row{row(2), row(2)}, 2, api.ErrForm}, {[]api.Row{row(1), row(3), row(2)}, 2, api.ErrForm},
		{heavy, 256, api.ErrLong}, {append(slices.Clone(heavy[1:]), heavy[0]), 256, api.ErrForm}, {heavy[:800], 256, api.OK},
	} {
		b, e := block.Build(x.l, x.per)
		if e != x.e || (len(b) == 0) != (e != api.OK) || len(b) > api.MaxData {
			t.Error(i, len(x.l), x.per, e, "not", x.e)
		}
	}
}

// heavy are so many rows, the last one with a text of so many bytes, and how many bytes their block has.
func heavy(n, last int) ([]api.Row, int) {
	r := rand.New(rand.NewSource(9))
	var l []api.Row
	for i := range n {
		x := row(i)
		text := make([]byte, api.MaxText)
		r.Read(text)
		x.Text = string(text[:150])
		if i == n-1 {
			x.Text = string(text[:last])
		}
		l = append(l, x)
	}
	front, x := parts(l, api.MaxGroup)
	return l, len(whole(front, x))
}

func TestP11_1Bound(t *testing.T) {
	n := 1000
	_, none := heavy(n, 0)
	for none < api.MaxData-190 {
		n += 1 + (api.MaxData-190-none)/200
		_, none = heavy(n, 0)
	}
	for _, size := range []int{api.MaxData - 1, api.MaxData, api.MaxData + 1} {
		l, got := heavy(n, size-none)
		if got != size {
			// The text's length itself has one byte more.
			l, got = heavy(n, size-none-1)
		}
		if got != size {
			t.Fatal("no rows make just so many bytes", got, size)
		}
		b, e := block.Build(l, api.MaxGroup)
		if size <= api.MaxData && (e != api.OK || len(b) != size) || size > api.MaxData && (e != api.ErrLong || len(b) != 0) {
			t.Error(size, len(b), e)
		}
	}
}

func TestP11_2Ends(t *testing.T) {
	tail := func(n uint32) []byte {
		return []byte{byte(n), byte(n >> 8), byte(n >> 16), byte(n >> 24), 'E', 'N', 'T', 'R'}
	}
	for i, x := range []struct {
		tail  []byte
		size  int
		at, n int
		e     api.Errno
	}{
		{tail(10), 23, 5, 10, api.OK}, {tail(10), 22, 0, 0, api.ErrForm}, {tail(10), 100, 82, 10, api.OK}, {tail(0), 13, 5, 0, api.OK}, {tail(0), 12, 0, 0, api.ErrForm},
		{tail(0x01020304), 0x01020304 + 13, 5, 0x01020304, api.OK}, {tail(math.MaxUint32), math.MaxUint32 + 13, 5, math.MaxUint32, api.OK}, {tail(math.MaxUint32), math.MaxUint32 + 12, 0, 0, api.ErrForm},
		{tail(10), -1, 0, 0, api.ErrForm}, {tail(10), math.MinInt, 0, 0, api.ErrForm}, {tail(10), math.MaxInt, math.MaxInt - 18, 10, api.OK},
		{tail(10)[1:], 100, 0, 0, api.ErrForm}, {append(tail(10), 0), 100, 0, 0, api.ErrForm}, {append([]byte{0}, tail(10)...), 100, 0, 0, api.ErrForm}, {nil, 100, 0, 0, api.ErrForm},
		{[]byte("\x0a\x00\x00\x00ENTS"), 100, 0, 0, api.ErrForm}, {[]byte("\x0a\x00\x00\x00entr"), 100, 0, 0, api.ErrForm}, {[]byte("ENTR\x0a\x00\x00\x00"), 100, 0, 0, api.ErrForm},
	} {
		at, n, e := block.Ends(x.tail, x.size)
		if at != x.at || n != x.n || e != x.e {
			t.Error(i, at, n, e)
		}
	}
	if block.Tail != 8 {
		t.Error("Tail")
	}
}

func TestP11_2Foot(t *testing.T) {
	good := block.Index{
		Spans:    []block.Span{{At: 5, Size: api.MaxData, Rows: 2, First: 0, Last: api.MaxNum - 1}, {At: api.MaxData, Size: 0, Rows: api.MaxData, First: api.MaxNum - 1}},
		Postings: []block.Posting{{Text: strings.Repeat("x", api.MaxWord), Groups: []int{0, 1, api.MaxData}}, {Text: "{a=\"\"}", Groups: []int{1}}, {Text: "{}", Groups: []int{0}}},
	}
	many := block.Index{Spans: make([]block.Span, api.MaxRows)}
	var all []int
	for i := range api.MaxRows {
		many.Spans[i] = block.Span{At: 5 + i, Size: 1, Rows: 1, First: i, Last: i}
		many.Postings = append(many.Postings, block.Posting{Text: fmt.Sprintf("{a=\"%04d\"}", i), Groups: []int{i}})
		all = append(all, i)
	}
	for _, x := range []block.Index{{}, good, many, {Spans: many.Spans, Postings: []block.Posting{{Text: "{}", Groups: all}}}} {
		if got, e := block.Foot(crc.Seal(indexBytes(x))); e != api.OK || !sameIndex(got, x) {
			t.Error(len(x.Spans), len(x.Postings), e)
		}
	}
	span := func(s block.Span) []byte { return indexBytes(block.Index{Spans: []block.Span{s}}) }
	posting := func(p block.Posting) []byte { return indexBytes(block.Index{Postings: []block.Posting{p}}) }
	for i, x := range [][]byte{
		nil, {0}, {0, 0, 0}, {0x80, 0, 0}, {1, 5}, {0, 1}, {0, 1, 2, '{'},
		span(block.Span{At: api.MaxData + 1}), span(block.Span{Size: api.MaxData + 1}), span(block.Span{Rows: api.MaxData + 1}), span(block.Span{First: api.MaxNum}), span(block.Span{Last: api.MaxNum}),
		posting(block.Posting{Groups: []int{api.MaxData + 1}}), posting(block.Posting{Text: strings.Repeat("x", api.MaxWord+1)}), posting(block.Posting{Groups: make([]int, api.MaxRows+1)}),
		indexBytes(block.Index{Spans: make([]block.Span, api.MaxRows+1)}), indexBytes(block.Index{Postings: make([]block.Posting, api.MaxRows+1)}),
		append(indexBytes(good), 0), indexBytes(good)[:len(indexBytes(good))-1],
	} {
		if got, e := block.Foot(crc.Seal(x)); e != api.ErrForm || !sameIndex(got, block.Index{}) {
			t.Error(i, e)
		}
	}
	if got, e := block.Foot([]byte{0, 0, 0}); e != api.ErrShort || !sameIndex(got, block.Index{}) {
		t.Error("too short", e)
	}
	b := crc.Seal(indexBytes(good))
	b[3] ^= 1
	if got, e := block.Foot(b); e != api.ErrSum || !sameIndex(got, block.Index{}) {
		t.Error("another sum", e)
	}
}

func TestP11_3Group(t *testing.T) {
	r := rand.New(rand.NewSource(2))
	for range 100 {
		l := some(r, 1+r.Intn(30))
		if got, e := block.Group(groupBytes(l)); e != api.OK || !same(got, l) {
			t.Fatal(len(l), e)
		}
	}
	var many []api.Row
	for i := range api.MaxGroup + 1 {
		many = append(many, row(i))
	}
	if got, e := block.Group(groupBytes(many[1:])); e != api.OK || !same(got, many[1:]) {
		t.Error("as many as may be", e)
	}
	bad := func(change func(*api.Row)) []byte {
		x := row(5)
		change(&x)
		return groupBytes([]api.Row{row(1), x})
	}
	good := groupBytes([]api.Row{row(1), row(2)})
	other := groupBytes([]api.Row{row(1), row(2), row(3)})
	// The column of times of three rows ahead of the others of two.
	mixed := append(bytes.Clone(other[:1+int(other[0])]), good[1+int(good[0]):]...)
	for i, b := range [][]byte{
		nil, {0}, groupBytes(nil), groupBytes(many), append(bytes.Clone(good), 0), good[:len(good)-1], mixed, good[1:],
		groupBytes([]api.Row{row(2), row(1)}), groupBytes([]api.Row{row(1), row(1)}),
		bad(func(x *api.Row) { x.Kind = 3 }), bad(func(x *api.Row) { x.Time = api.MaxNum }), bad(func(x *api.Row) { x.Value = 1 }), bad(func(x *api.Row) { x.Null = true }), bad(func(x *api.Row) { x.Text = strings.Repeat("x", 201) }),
		bad(func(x *api.Row) { x.Maker = 0 }), bad(func(x *api.Row) { x.Maker = 65 }), bad(func(x *api.Row) { x.Seq = 0 }), bad(func(x *api.Row) { x.Place = 64 }), bad(func(x *api.Row) { x.Place = -1 }),
		bad(func(x *api.Row) { x.Labels = []api.Label{{Name: "A"}} }),
	} {
		if l, e := block.Group(b); e != api.ErrForm || len(l) != 0 {
			t.Error(i, len(l), e)
		}
	}
	for i := range good {
		b := bytes.Clone(good)
		b[i] ^= 1
		if l, e := block.Group(b); e != api.ErrForm || len(l) != 0 {
			t.Error("a turned bit", i, e)
		}
	}
}

func TestP11_3Read(t *testing.T) {
	r := rand.New(rand.NewSource(3))
	l := some(r, 7)
	l = l[:min(7, len(l))]
	front, x := parts(l, 3)
	good := whole(front, x)
	if got, e := block.Read(good); e != api.OK || !same(got, l) {
		t.Fatal(e)
	}
	change := func(f func(*block.Index)) []byte {
		y := block.Index{Spans: slices.Clone(x.Spans)}
		for _, p := range x.Postings {
			y.Postings = append(y.Postings, block.Posting{Text: p.Text, Groups: slices.Clone(p.Groups)})
		}
		f(&y)
		return whole(front, y)
	}
	uneven, y := parts(l[:2], 2)
	more := groupBytes(l[2:])
	y.Spans = append(y.Spans, block.Span{At: len(uneven), Size: len(more), Rows: 5, First: l[2].Time, Last: l[6].Time})
	gap := append(bytes.Clone(front), 0)
	head := bytes.Clone(good)
	head[4] = 2
	first := bytes.Clone(good)
	first[0] = 'e'
	for i, b := range [][]byte{
		nil, {1, 2, 3}, []byte("ENTR"), good[1:], good[:len(good)-1], append(bytes.Clone(good), 0), append([]byte{0}, good...), head, first, whole(gap, x), whole(uneven[:0:0], block.Index{}), whole(front, block.Index{}),
		whole(append(uneven, more...), y), whole([]byte("ENTR\x01"), block.Index{}),
		change(func(x *block.Index) { x.Spans[0].Rows++ }), change(func(x *block.Index) { x.Spans[1].First++ }), change(func(x *block.Index) { x.Spans[1].Last++ }), change(func(x *block.Index) { x.Spans[0].At++ }),
		change(func(x *block.Index) { x.Spans[0].Size = api.MaxData }), change(func(x *block.Index) { x.Spans[0].At = api.MaxData }), change(func(x *block.Index) { x.Spans[2].Size++ }), change(func(x *block.Index) { x.Spans[0].Rows = 0 }), change(func(x *block.Index) { x.Spans[0].Rows = api.MaxData }),
		change(func(x *block.Index) { x.Spans = x.Spans[:2] }), change(func(x *block.Index) { x.Spans[0], x.Spans[1] = x.Spans[1], x.Spans[0] }), change(func(x *block.Index) { x.Spans = append(x.Spans, x.Spans[2]) }),
		change(func(x *block.Index) { x.Postings = x.Postings[1:] }), change(func(x *block.Index) { x.Postings[0].Text += "x" }), change(func(x *block.Index) { x.Postings[0].Groups = append(x.Postings[0].Groups, 9) }), change(func(x *block.Index) { slices.Reverse(x.Postings); x.Postings[0].Text += " " }),
	} {
		if got, e := block.Read(b); e != api.ErrForm || len(got) != 0 {
			t.Error(i, len(got), e)
		}
	}
	if got, e := block.Read(change(func(*block.Index) {})); e != api.OK || !same(got, l) {
		t.Error("unchanged", e)
	}
}

func TestP11_3ReadBeyond(t *testing.T) {
	var l []api.Row
	for i := range 60 {
		l = append(l, row(i))
	}
	front, x := parts(l, 3)
	for i, s := range []block.Span{{At: len(front), Size: len(front)}, {At: len(front) - 1, Size: 2}, {At: len(front), Size: 0}, {At: 5, Size: api.MaxData}, {At: api.MaxData, Size: api.MaxData}} {
		s.Rows, s.First, s.Last = 3, 57, 59
		y := block.Index{Spans: append(slices.Clone(x.Spans[:19]), s), Postings: x.Postings}
		if got, e := block.Read(whole(front, y)); e != api.ErrForm || len(got) != 0 {
			t.Error(i, e)
		}
	}
}

func TestP11_4ThereAndBack(t *testing.T) {
	r := rand.New(rand.NewSource(4))
	for range 60 {
		l, per := some(r, 1+r.Intn(300)), 1+r.Intn(api.MaxGroup)
		b, e := block.Build(l, per)
		if e != api.OK {
			t.Fatal(e)
		}
		if back, e := block.Read(b); e != api.OK || !same(back, l) {
			t.Fatal(len(l), per, e)
		}
		at, n, e := block.Ends(b[len(b)-block.Tail:], len(b))
		if e != api.OK {
			t.Fatal(e)
		}
		x, e := block.Foot(b[at : at+n])
		if e != api.OK {
			t.Fatal(e)
		}
		var all []api.Row
		for i, s := range x.Spans {
			g, e := block.Group(b[s.At : s.At+s.Size])
			if e != api.OK || len(g) != s.Rows || s.At+s.Size > at {
				t.Fatal(i, e)
			}
			for _, y := range g {
				text, _ := label.Text(y.Labels)
				named := slices.ContainsFunc(x.Postings, func(p block.Posting) bool { return p.Text == text && slices.Contains(p.Groups, i) })
				if y.Time < s.First || y.Time > s.Last || !named {
					t.Fatal("a row that the index doesn't tell", y)
				}
			}
			all = append(all, g...)
		}
		if !same(all, l) {
			t.Fatal("the groups aren't the block's rows")
		}
	}
}

func TestP11_5Memory(t *testing.T) {
	x, y := row(1), row(2)
	x.Labels = []api.Label{{Name: "a", Value: "1"}}
	l := []api.Row{x, y, row(3)}
	b, _ := block.Build(l[:2], 1)
	if l[2].Time != 3 || l[0].Labels[0].Value != "1" {
		t.Error("rows are changed")
	}
	kept := bytes.Clone(b)
	rows, _ := block.Read(b)
	rows[0].Labels[0].Value, rows[0].Text = "9", "9"
	_ = append(rows, x)
	at, n, _ := block.Ends(b[len(b)-8:], len(b))
	i, _ := block.Foot(b[at : at+n])
	i.Postings[0].Groups[0] = 7
	_ = append(i.Postings[0].Groups, 8)
	block.Group(b[i.Spans[0].At : i.Spans[0].At+i.Spans[0].Size])
	if !bytes.Equal(b, kept) {
		t.Error("bytes are changed")
	}
	if j, _ := block.Foot(b[at : at+n]); j.Postings[0].Groups[0] == 7 || j.Postings[1].Groups[0] == 8 {
		t.Error("an answer is kept")
	}
	b[0] = 0
	if again, _ := block.Build(l[:2], 1); again[0] != 'E' {
		t.Error("an answer is kept")
	}
}
