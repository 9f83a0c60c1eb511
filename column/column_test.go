package column_test

import (
	"bytes"
	"math"
	"math/rand"
	"slices"
	"strings"
	"testing"

	"entrepot/api"
	"entrepot/bits"
	"entrepot/column"
	"entrepot/crc"
	"entrepot/delta"
	"entrepot/nums"
	"entrepot/squeeze"
)

// chunk makes a chunk of a content, by the chapter.
func chunk(kind byte, content []byte) []byte {
	form, body := byte(0), content
	if z, e := squeeze.Deflate(content); e == api.OK && len(z) < len(content) {
		form, body = 1, z
	}
	return raw(kind, form, len(content), body)
}

// raw makes a chunk, right or not.
func raw(kind, form byte, n int, body []byte) []byte {
	b := append([]byte{kind, form}, nums.PutU(uint64(n))...)
	return crc.Seal(append(b, body...))
}

// content makes bytes of numbers and texts.
func content(l ...any) []byte {
	var b []byte
	for _, x := range l {
		switch x := x.(type) {
		case int:
			b = append(b, nums.PutU(uint64(x))...)
		case string:
			b = append(b, x...)
		}
	}
	return b
}

func wordsContent(l []string) []byte {
	known := slices.Clone(l)
	slices.Sort(known)
	known = slices.Compact(known)
	b := content(len(known))
	for _, s := range known {
		b = append(b, content(len(s), s)...)
	}
	b = append(b, content(len(l))...)
	for i := 0; i < len(l); {
		k := i
		for k < len(l) && l[k] == l[i] {
			k++
		}
		b = append(b, content(slices.Index(known, l[i]), k-i)...)
		i = k
	}
	return b
}

func textsContent(l []string) []byte {
	b := content(len(l))
	for _, s := range l {
		b = append(b, content(len(s))...)
	}
	return append(b, strings.Join(l, "")...)
}

func flagsContent(l []bool) []byte {
	var w bits.Writer
	for _, f := range l {
		if f {
			w.Bits(1, 1)
		} else {
			w.Bits(0, 1)
		}
	}
	return append(content(len(l)), w.Bytes()...)
}

func intsContent(l []int64) []byte {
	way := delta.Best(l)
	row, _ := delta.Encode(l, way)
	return append([]byte{byte(way)}, row...)
}

func someTexts(r *rand.Rand) []string {
	l := make([]string, r.Intn(60))
	for i := range l {
		l[i] = []string{"", "a", "b", "aa", "{svc=\"web\"}", strings.Repeat("x", r.Intn(90)), "\x00\xff"}[r.Intn(7)]
		if i > 0 && r.Intn(2) == 0 {
			l[i] = l[i-1]
		}
	}
	return l
}

func TestP10_1Put(t *testing.T) {
	r := rand.New(rand.NewSource(1))
	for range 300 {
		texts := someTexts(r)
		var ints []int64
		var flags []bool
		for range texts {
			ints = append(ints, r.Int63n(1<<uint(1+r.Intn(60))))
			flags = append(flags, r.Intn(9) == 0)
		}
		if b, e := column.PutInts(ints); e != api.OK || !bytes.Equal(b, chunk(1, intsContent(ints))) {
			t.Fatal(ints, e)
		}
		if b, e := column.PutWords(texts); e != api.OK || !bytes.Equal(b, chunk(2, wordsContent(texts))) {
			t.Fatal(texts, e)
		}
		if b, e := column.PutTexts(texts); e != api.OK || !bytes.Equal(b, chunk(3, textsContent(texts))) {
			t.Fatal(texts, e)
		}
		if b, e := column.PutFlags(flags); e != api.OK || !bytes.Equal(b, chunk(4, flagsContent(flags))) {
			t.Fatal(flags, e)
		}
	}
	want := crc.Seal([]byte{4, 0, 2, 3, 5})
	if b, _ := column.PutFlags([]bool{true, false, true}); !bytes.Equal(b, want) {
		t.Errorf("the example: % x", b)
	}
}

func TestP10_1PutErrors(t *testing.T) {
	word := strings.Repeat("w", api.MaxWord)
	many := make([]string, api.MaxRows)
	for i := range many {
		many[i] = strings.Repeat("m", 31) + string([]byte{byte(i), byte(i >> 8)})
	}
	texts := func(name string, put func([]string) ([]byte, api.Errno), l []string, e api.Errno) {
		if b, f := put(l); f != e || (len(b) == 0) != (e != api.OK) {
			t.Error(name, len(b), f, "not", e)
		}
	}
	for name, put := range map[string]func([]string) ([]byte, api.Errno){"words": column.PutWords, "texts": column.PutTexts} {
		texts(name, put, make([]string, api.MaxRows), api.OK)
		texts(name, put, make([]string, api.MaxRows+1), api.ErrLong)
		texts(name, put, []string{"a", word}, api.OK)
		texts(name, put, []string{"a", word + "w"}, api.ErrLong)
		texts(name, put, many, api.ErrLong)
		texts(name, put, many[:1700], api.OK)
	}
	texts("words", column.PutWords, slices.Repeat([]string{word}, api.MaxRows), api.OK)
	texts("texts", column.PutTexts, slices.Repeat([]string{word}, api.MaxRows), api.ErrLong)
	// 63 texts of 1024, one of 895: with 65 numbers of one or two bytes the content has 65536 bytes.
	full := append(slices.Repeat([]string{word}, 63), word[:1024-1-2*64])
	texts("texts", column.PutTexts, full, api.OK)
	full[63] += "x"
	texts("texts", column.PutTexts, full, api.ErrLong)
	if b, e := column.PutFlags(make([]bool, api.MaxRows+1)); e != api.ErrLong || len(b) != 0 {
		t.Error("flags", e)
	}
	if _, e := column.PutFlags(make([]bool, api.MaxRows)); e != api.OK {
		t.Error("flags", e)
	}
	for _, x := range []struct {
		l []int64
		e api.Errno
	}{
		{make([]int64, api.MaxRows), api.OK}, {make([]int64, api.MaxRows+1), api.ErrLong}, {append(make([]int64, api.MaxRows), math.MaxInt64), api.ErrLong},
		{[]int64{api.MaxInt, -api.MaxInt}, api.OK}, {[]int64{0, api.MaxInt + 1}, api.ErrRange}, {[]int64{math.MinInt64}, api.ErrRange},
	} {
		if b, e := column.PutInts(x.l); e != x.e || (len(b) == 0) != (e != api.OK) {
			t.Error("integers", len(x.l), e, "not", x.e)
		}
	}
}

// reads tells how many rows each kind reads of a chunk, or its error.
func reads(b []byte, kind int) (int, api.Errno) {
	switch kind {
	case 1:
		l, e := column.Ints(b)
		return len(l), e
	case 2:
		l, e := column.Words(b)
		return len(l), e
	case 3:
		l, e := column.Texts(b)
		return len(l), e
	}
	l, e := column.Flags(b)
	return len(l), e
}

func TestP10_2Form(t *testing.T) {
	long := bytes.Repeat([]byte{7}, 300)
	z, _ := squeeze.Deflate(long)
	for i, x := range []struct {
		b    []byte
		kind int
		e    api.Errno
	}{
		{nil, 1, api.ErrShort}, {[]byte{1, 2, 3}, 2, api.ErrShort}, {[]byte{0, 0, 0, 1}, 3, api.ErrSum}, {append(chunk(4, content(0)), 0), 4, api.ErrSum},
		{crc.Seal(nil), 1, api.ErrForm}, {crc.Seal([]byte{1}), 1, api.ErrForm}, {crc.Seal([]byte{1, 0}), 1, api.ErrForm}, {crc.Seal([]byte{1, 0, 0}), 1, api.ErrForm},
		{raw(5, 0, 1, content(0)), 4, api.ErrForm}, {raw(0, 0, 1, content(0)), 4, api.ErrForm}, {raw(4, 2, 1, content(0)), 4, api.ErrForm}, {raw(132, 0, 1, content(0)), 4, api.ErrForm},
		{raw(4, 0, 2, content(0)), 4, api.ErrForm}, {raw(4, 0, 0, content(0)), 4, api.ErrForm}, {raw(4, 0, 1<<17, content(0)), 4, api.ErrForm}, {raw(4, 0, 1, content(0, 0)), 4, api.ErrForm},
		{raw(4, 1, 1, content(0)), 4, api.ErrForm}, {raw(4, 1, 1, []byte{0x63, 0, 0}), 4, api.ErrForm},
		{chunk(4, content(0)), 4, api.OK}, {chunk(4, content(3, 5)), 4, api.OK}, {chunk(4, content(3, 13)), 4, api.ErrForm}, {chunk(4, content(3)), 4, api.ErrForm}, {chunk(4, content(3, 5, 0)), 4, api.ErrForm}, {chunk(4, content(9, 5)), 4, api.ErrForm},
		{chunk(4, append(content(2049), make([]byte, 257)...)), 4, api.ErrForm}, {chunk(4, append(content(2048), make([]byte, 256)...)), 4, api.OK},
		{chunk(1, content(0, 0)), 1, api.OK}, {chunk(1, content(1, 0)), 1, api.ErrForm}, {chunk(1, content(3, 0)), 1, api.ErrForm}, {chunk(1, content(0, 1)), 1, api.ErrForm}, {chunk(1, content(0, 1, 2, 2)), 1, api.ErrForm}, {chunk(1, content(0, 2, 8, 8)), 1, api.OK}, {chunk(1, content(1, 2, 8, 0)), 1, api.ErrForm},
		{chunk(1, nil), 1, api.ErrForm}, {chunk(1, []byte{0, 1, 0x80, 0}), 1, api.ErrForm},
		{chunk(2, content(0, 0)), 2, api.OK}, {chunk(2, content(1, 1, "a", 2, 0, 2)), 2, api.OK}, {chunk(2, content(1, 1, "a", 2, 0, 1, 0, 1)), 2, api.ErrForm}, {chunk(2, content(1, 1, "a", 2, 0, 3)), 2, api.ErrForm},
		{chunk(2, content(1, 1, "a", 2, 0, 1)), 2, api.ErrForm}, {chunk(2, content(1, 1, "a", 2, 1, 2)), 2, api.ErrForm}, {chunk(2, content(1, 1, "a", 0)), 2, api.ErrForm}, {chunk(2, content(1, 1, "a", 2, 0, 0, 0, 2)), 2, api.ErrForm},
		{chunk(2, content(2, 1, "b", 1, "a", 2, 0, 1, 1, 1)), 2, api.ErrForm}, {chunk(2, content(2, 1, "a", 1, "a", 2, 0, 1, 1, 1)), 2, api.ErrForm}, {chunk(2, content(2, 1, "a", 1, "b", 2, 0, 1, 1, 1)), 2, api.OK}, {chunk(2, content(0, 1, 0, 1)), 2, api.ErrForm},
		{chunk(2, content(1, 1, "a", 1, 0, 1, 0)), 2, api.ErrForm}, {chunk(2, content(2, 1, "a", 1, "b", 1, 0, 1)), 2, api.ErrForm}, {chunk(2, content(1, 1025, strings.Repeat("a", 1025), 1, 0, 1)), 2, api.ErrForm}, {chunk(2, content(1, 0, 2049, 0, 2049)), 2, api.ErrForm},
		{chunk(3, content(0)), 3, api.OK}, {chunk(3, content(2, 1, 0, "x")), 3, api.OK}, {chunk(3, content(2, 1, 0)), 3, api.ErrForm}, {chunk(3, content(2, 1, 0, "xy")), 3, api.ErrForm}, {chunk(3, content(2, 1)), 3, api.ErrForm}, {chunk(3, content(1, 1025, strings.Repeat("a", 1025))), 3, api.ErrForm}, {chunk(3, append(content(2049), make([]byte, 2049)...)), 3, api.ErrForm},
		{chunk(3, content(1, 300, string(long))), 3, api.OK}, {raw(3, 0, 303, content(1, 300, string(long))), 3, api.ErrForm}, {raw(3, 1, 300, z), 3, api.ErrForm},
	} {
		n, e := reads(x.b, x.kind)
		if e != x.e || e != api.OK && n != 0 {
			t.Errorf("%d: % x of kind %d: %d, not %d", i, x.b, x.kind, e, x.e)
		}
		for kind := 1; kind <= 4; kind++ {
			if n, e := reads(x.b, kind); kind != x.kind && (e == api.OK || n != 0) {
				t.Errorf("%d: % x is read as kind %d", i, x.b, kind)
			}
		}
	}
}

func TestP10_2Squeezed(t *testing.T) {
	text := strings.Repeat("a", 300)
	b, _ := column.PutTexts([]string{text})
	if b[1] != 1 {
		t.Fatal("it isn't squeezed")
	}
	body := b[4 : len(b)-4]
	for i, x := range [][]byte{
		raw(3, 1, 303, append(bytes.Clone(body), 0)), raw(3, 1, 302, body), raw(3, 1, 304, body), raw(3, 1, 1<<16+1, body), raw(3, 0, 303, body), raw(3, 1, 303, body[:len(body)-1]),
	} {
		if l, e := column.Texts(x); e != api.ErrForm || len(l) != 0 {
			t.Error(i, e)
		}
	}
	// The same bytes, stored instead of squeezed.
	stored := append([]byte{1, 47, 1, 0xd0, 0xfe}, content(1, 300, text)...)
	if l, e := column.Texts(raw(3, 1, 303, stored)); e != api.ErrForm || len(l) != 0 {
		t.Error("another squeezed text", e)
	}
}

func TestP10_3Of(t *testing.T) {
	if s := column.Of([]int{3, 1, 2}); s != (column.Stats[int]{Rows: 3, Least: 1, Most: 3}) || s.May(4, 9) {
		t.Error("the example", s)
	}
	if s := column.Of([]string(nil)); s != (column.Stats[string]{}) || s.May("", "z") {
		t.Error("of none", s)
	}
	if s := column.Of([]int{}); s != (column.Stats[int]{}) || s.May(0, 0) || s.May(-1, 1) {
		t.Error("of none", s)
	}
	if s := column.Of([]string{"b", "", "\xff", "a"}); s != (column.Stats[string]{Rows: 4, Least: "", Most: "\xff"}) {
		t.Error("of texts", s)
	}
	if s := column.Of([]int{7}); s != (column.Stats[int]{Rows: 1, Least: 7, Most: 7}) || !s.May(7, 7) || s.May(8, 9) || s.May(0, 6) {
		t.Error("of one", s)
	}
	if s := column.Of([]float64{0.5, -0.5}); s.Least != -0.5 || s.Most != 0.5 || s.Rows != 2 {
		t.Error("of floats", s)
	}
	if s := column.Of([]int8{-128, 127, -128}); s != (column.Stats[int8]{Rows: 3, Least: -128, Most: 127}) {
		t.Error("of small integers", s)
	}
}

func TestP10_3May(t *testing.T) {
	s := column.Of([]int{5, 3, 9})
	for _, x := range []struct {
		from, to int
		want     bool
	}{
		{3, 9, true}, {0, 3, true}, {0, 2, false}, {9, 20, true}, {10, 20, false}, {6, 7, true}, {4, 4, true}, {9, 9, true}, {3, 3, true}, {math.MinInt, math.MaxInt, true}, {20, 0, false}, {2, 0, false}, {30, 20, false},
	} {
		if s.May(x.from, x.to) != x.want {
			t.Error(x)
		}
	}
}

func TestP10_4ThereAndBack(t *testing.T) {
	r := rand.New(rand.NewSource(2))
	seen := map[string][]string{}
	for range 500 {
		texts := someTexts(r)
		var ints []int64
		var flags []bool
		for range texts {
			ints = append(ints, r.Int63n(2*api.MaxInt)-api.MaxInt)
			flags = append(flags, r.Intn(2) == 0)
		}
		b, _ := column.PutInts(ints)
		if l, e := column.Ints(b); e != api.OK || !slices.Equal(l, ints) {
			t.Fatal(ints, l, e)
		}
		b, _ = column.PutFlags(flags)
		if l, e := column.Flags(b); e != api.OK || !slices.Equal(l, flags) {
			t.Fatal(flags, l, e)
		}
		b, _ = column.PutTexts(texts)
		if l, e := column.Texts(b); e != api.OK || !slices.Equal(l, texts) {
			t.Fatal(texts, l, e)
		}
		b, _ = column.PutWords(texts)
		if l, e := column.Words(b); e != api.OK || !slices.Equal(l, texts) {
			t.Fatal(texts, l, e)
		}
		if other, ok := seen[string(b)]; ok && !slices.Equal(other, texts) {
			t.Fatal("unlike columns, one chunk")
		}
		seen[string(b)] = texts
	}
}

func TestP10_4Bounds(t *testing.T) {
	// Columns that are as great as may be are read again.
	var many []string
	for i := range api.MaxRows {
		many = append(many, string([]byte{byte(i), byte(i >> 8)}))
	}
	word := strings.Repeat("w", api.MaxWord)
	full := append(slices.Repeat([]string{word}, 63), word[:1024-1-2*64])
	for i, l := range [][]string{many, {word}, {word, "", word}, full, slices.Repeat([]string{"x"}, api.MaxRows)} {
		b, e := column.PutTexts(l)
		if back, f := column.Texts(b); e != api.OK || f != api.OK || !slices.Equal(back, l) {
			t.Error("texts", i, e, f)
		}
		b, e = column.PutWords(l)
		if back, f := column.Words(b); e != api.OK || f != api.OK || !slices.Equal(back, l) {
			t.Error("words", i, e, f)
		}
	}
	flags := slices.Repeat([]bool{true, false, true, true}, api.MaxRows/4)
	b, e := column.PutFlags(flags)
	if back, f := column.Flags(b); e != api.OK || f != api.OK || !slices.Equal(back, flags) {
		t.Error("flags", e, f)
	}
	ints := slices.Repeat([]int64{api.MaxInt, -api.MaxInt}, api.MaxRows/2)
	b, e = column.PutInts(ints)
	if back, f := column.Ints(b); e != api.OK || f != api.OK || !slices.Equal(back, ints) {
		t.Error("integers", e, f)
	}
}

func TestP10_4Memory(t *testing.T) {
	words := []string{"b", "a", "b", "z"}
	flags := []bool{true, true}
	ints := []int64{9, 7, 5}
	b, _ := column.PutWords(words[:3])
	column.PutTexts(words[:3])
	column.PutFlags(flags[:1])
	column.PutInts(ints[:2])
	column.Of(words[:3])
	if !slices.Equal(words, []string{"b", "a", "b", "z"}) || !slices.Equal(ints, []int64{9, 7, 5}) || !flags[1] {
		t.Error("what is handed in is changed")
	}
	kept := bytes.Clone(b)
	l, _ := column.Words(b)
	l[0] = "q"
	_ = append(l, "q")
	if !bytes.Equal(b, kept) {
		t.Error("a chunk is changed")
	}
	one, _ := column.PutInts(ints)
	one[0] = 77
	if two, _ := column.PutInts(ints); two[0] != 1 {
		t.Error("an answer is kept")
	}
}
