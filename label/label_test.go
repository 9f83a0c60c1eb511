package label_test

import (
	"fmt"
	"math"
	"math/rand"
	"slices"
	"strings"
	"testing"

	"entrepot/api"
	"entrepot/label"
)

// set makes labels of names and values.
func set(l ...string) []api.Label {
	var s []api.Label
	for i := 0; i < len(l); i += 2 {
		s = append(s, api.Label{Name: l[i], Value: l[i+1]})
	}
	return s
}

// random is a label set.
func random(r *rand.Rand) []api.Label {
	var s []api.Label
	for _, name := range []string{"a", "a0", "a_", "aa", "b", "host", "svc", "zzzzzzzz"} {
		if len(s) < api.MaxLabels && r.Intn(3) == 0 {
			b := make([]byte, r.Intn(api.MaxValue+1))
			r.Read(b)
			if r.Intn(2) == 0 {
				b = []byte(strings.Repeat("\"", r.Intn(3)) + strings.Repeat("\\", r.Intn(3)) + "},x=\"")
			}
			s = append(s, api.Label{Name: name, Value: string(b)})
		}
	}
	return s
}

func TestP8_1Right(t *testing.T) {
	long := strings.Repeat("v", api.MaxValue)
	for _, x := range []struct {
		l    []api.Label
		want bool
	}{
		{nil, true}, {[]api.Label{}, true}, {set("a", ""), true}, {set("a", long), true}, {set("a", long+"v"), false},
		{set("abcdefgh", ""), true}, {set("abcdefghi", ""), false}, {set("", "x"), false},
		{set("a_0z", ""), true}, {set("_a", ""), false}, {set("0a", ""), false}, {set("a-b", ""), false}, {set("a b", ""), false}, {set("é", ""), false},
		{set("a`", ""), false}, {set("a{", ""), false}, {set("{", ""), false}, {set("`", ""), false}, {set("a/", ""), false}, {set("a:", ""), false}, {set("a9", ""), true},
		{set("z", "", "zz", ""), true}, {set("a", "\x00\xff\"\\"), true},
		{set("a", "", "b", "", "c", "", "d", ""), true}, {set("a", "", "b", "", "c", "", "d", "", "e", ""), false},
		{set("b", "", "a", ""), false}, {set("a", "1", "a", "2"), false}, {set("a", "", "a0", "", "a_", "", "aa", ""), true}, {set("aa", "", "a_", ""), false},
		{set("a", "", "b", "", "b", ""), false}, {set("a", "", "b", long+"v"), false}, {set("a", "", "", ""), false},
	} {
		if label.Right(x.l) != x.want {
			t.Error(x.l, "isn't", x.want)
		}
		if s, e := label.Text(x.l); (e == api.OK) != x.want || e != api.OK && (e != api.ErrForm || s != "") {
			t.Error("the text of", x.l, s, e)
		}
	}
}

// quoted says a value's text, byte by byte.
func quoted(s string) string {
	q := ""
	for i := 0; i < len(s); i++ {
		if s[i] < 32 || s[i] > 126 || s[i] == '"' || s[i] == '\\' {
			q += fmt.Sprintf("\\%02x", s[i])
		} else {
			q += s[i : i+1]
		}
	}
	return q
}

func TestP8_1Text(t *testing.T) {
	for _, x := range []struct {
		l []api.Label
		s string
	}{
		{nil, "{}"}, {set("a", "x", "b", ""), `{a="x",b=""}`}, {set("a", `"`), `{a="\22"}`}, {set("a", "\x1f\x20\x7e\x7f\x00\xff\\A}"), `{a="\1f ~\7f\00\ff\5cA}"}`},
		{set("a", "1", "b", "2", "c", "3", "d", "4"), `{a="1",b="2",c="3",d="4"}`},
	} {
		if s, e := label.Text(x.l); s != x.s || e != api.OK {
			t.Error(x.l, s, e)
		}
	}
	for i := range 256 {
		v := string([]byte{byte(i)})
		if s, _ := label.Text(set("a", v)); s != `{a="`+quoted(v)+`"}` {
			t.Error(i, s)
		}
	}
}

func TestP8_1Parse(t *testing.T) {
	for _, s := range []string{
		"", "{", "}", "{}x", "x{}", " {}", "{} ", "{{}}", "{,}", `{a="x"`, `a="x"}`, `{a="x",}`, `{,a="x"}`, `{a="x"b="y"}`, `{a="x";b="y"}`, `{a="x",,b="y"}`,
		`{a=x}`, `{a="x}`, `{a=x"}`, `{a}`, `{a=}`, `{="x"}`, `{a="\41"}`, `{a="\2A"}`, `{a="\7F"}`, `{a="\"}`, `{a="\2"}`, `{a="\g0"}`, `{a="\0g"}`, `{a="\""}`, `{a="\\"}`, `{a="""}`,
		"{a=\"\n\"}", "{a=\"\x7f\"}", "{a=\"\xff\"}", `{b="",a=""}`, `{a="",a=""}`, `{A=""}`, `{abcdefghi=""}`, `{a="12345678901234567"}`, `{a="",b="",c="",d="",e=""}`, `{a= "x"}`, `{ a="x"}`, `{a="x", b=""}`,
		`{a="\20"}`, `{a=""x=""}`, `{a==""}`, `{a="x"}}`, `{a="\22}`,
	} {
		if l, e := label.Parse(s); e != api.ErrForm || len(l) != 0 {
			t.Error(s, l, e)
		}
	}
	if l, e := label.Parse(`{a="\22\5c\00\ff},{=",b=""}`); e != api.OK || !slices.Equal(l, set("a", "\"\\\x00\xff},{=", "b", "")) {
		t.Error(l, e)
	}
	if l, e := label.Parse("{}"); e != api.OK || len(l) != 0 {
		t.Error("the empty set", l, e)
	}
}

func TestP8_1Get(t *testing.T) {
	l := set("b", "1", "a", "2", "b", "3", "", "4")
	for _, x := range []struct {
		name, value string
		ok          bool
	}{{"a", "2", true}, {"b", "1", true}, {"", "4", true}, {"c", "", false}, {"A", "", false}} {
		if v, ok := label.Get(l, x.name); v != x.value || ok != x.ok {
			t.Error(x, v, ok)
		}
	}
	if v, ok := label.Get(nil, ""); v != "" || ok {
		t.Error("of nothing")
	}
	if v, ok := label.Get(set("a", ""), "a"); v != "" || !ok {
		t.Error("an empty value")
	}
}

func TestP8_1Part(t *testing.T) {
	l := set("a", "1", "b", "2", "c", "3")
	for _, x := range []struct {
		by   []string
		want []api.Label
	}{
		{nil, nil}, {[]string{"b"}, set("b", "2")}, {[]string{"c", "a", "c"}, set("a", "1", "c", "3")}, {[]string{"x", ""}, nil}, {[]string{"c", "b", "a"}, l},
	} {
		if part := label.Part(l, x.by...); !slices.Equal(part, x.want) {
			t.Error(x.by, part)
		}
	}
	if part := label.Part(set("b", "1", "a", "2", "b", "3"), "b"); !slices.Equal(part, set("b", "1", "b", "3")) {
		t.Error("of no set", part)
	}
	if part := label.Part(nil, "a"); len(part) != 0 {
		t.Error("of nothing", part)
	}
}

func TestP8_2Asks(t *testing.T) {
	long := strings.Repeat("v", api.MaxValue)
	for _, x := range []struct {
		m    api.Matcher
		want bool
	}{
		{api.Matcher{Name: "a", Way: api.Is, Value: long}, true}, {api.Matcher{Name: "a", Way: api.Not}, true}, {api.Matcher{Name: "a", Way: api.Begins, Value: "\x00"}, true}, {api.Matcher{Name: "a", Way: api.Has}, true},
		{api.Matcher{Name: "a", Way: api.Has, Value: "x"}, false}, {api.Matcher{Name: "a", Way: api.Is, Value: long + "v"}, false}, {api.Matcher{Name: "", Way: api.Is}, false}, {api.Matcher{Name: "A", Way: api.Has}, false}, {api.Matcher{Name: "abcdefghi", Way: api.Has}, false},
		{api.Matcher{Name: "a"}, false}, {api.Matcher{Name: "a", Way: 5}, false}, {api.Matcher{Name: "a", Way: -1}, false}, {api.Matcher{Name: "a", Way: math.MinInt}, false},
	} {
		if label.Asks(x.m) != x.want {
			t.Error(x.m, "isn't", x.want)
		}
	}
}

func TestP8_2Meets(t *testing.T) {
	l := set("a", "web", "b", "")
	for _, x := range []struct {
		m    api.Matcher
		want bool
	}{
		{api.Matcher{Name: "a", Way: api.Is, Value: "web"}, true}, {api.Matcher{Name: "a", Way: api.Is, Value: "we"}, false}, {api.Matcher{Name: "c", Way: api.Is}, false}, {api.Matcher{Name: "b", Way: api.Is}, true},
		{api.Matcher{Name: "a", Way: api.Not, Value: "web"}, false}, {api.Matcher{Name: "a", Way: api.Not, Value: "we"}, true}, {api.Matcher{Name: "c", Way: api.Not}, true}, {api.Matcher{Name: "b", Way: api.Not}, false},
		{api.Matcher{Name: "a", Way: api.Begins, Value: "we"}, true}, {api.Matcher{Name: "a", Way: api.Begins, Value: "web"}, true}, {api.Matcher{Name: "a", Way: api.Begins}, true}, {api.Matcher{Name: "a", Way: api.Begins, Value: "eb"}, false}, {api.Matcher{Name: "a", Way: api.Begins, Value: "webs"}, false}, {api.Matcher{Name: "c", Way: api.Begins}, false}, {api.Matcher{Name: "b", Way: api.Begins}, true},
		{api.Matcher{Name: "a", Way: api.Has}, true}, {api.Matcher{Name: "b", Way: api.Has}, true}, {api.Matcher{Name: "c", Way: api.Has}, false},
		{api.Matcher{Name: "a", Way: api.Has, Value: "web"}, false}, {api.Matcher{Name: "c", Way: 0}, false}, {api.Matcher{Name: "a", Way: 9, Value: "web"}, false},
	} {
		if label.Meets(l, x.m) != x.want {
			t.Error(x.m, "isn't", x.want)
		}
	}
	is, has := api.Matcher{Name: "a", Way: api.Is, Value: "web"}, api.Matcher{Name: "c", Way: api.Has}
	if !label.Meets(l) || !label.Meets(nil) || !label.Meets(l, is, is) || label.Meets(l, is, has) || label.Meets(l, has, is) {
		t.Error("all of them")
	}
	if !label.Meets(nil, api.Matcher{Name: "a", Way: api.Not, Value: "x"}) {
		t.Error("the example")
	}
	none := set("b", "", "a", "web")
	if label.Meets(none) || label.Meets(none, is) {
		t.Error("of no set")
	}
	if label.Meets(l, is, api.Matcher{Name: "A", Way: api.Not, Value: "x"}) {
		t.Error("of no matcher")
	}
}

func TestP8_3ThereAndBack(t *testing.T) {
	r := rand.New(rand.NewSource(1))
	seen := map[string][]api.Label{}
	for range 5000 {
		l := random(r)
		s, e := label.Text(l)
		if e != api.OK {
			t.Fatal(l, e)
		}
		if back, e := label.Parse(s); e != api.OK || !slices.Equal(back, l) {
			t.Fatal(l, s, back, e)
		}
		if other, ok := seen[s]; ok && !slices.Equal(other, l) {
			t.Fatal(other, l, s)
		}
		seen[s] = l
		b := []byte(s)
		b[r.Intn(len(b))] = "{}=\",\\0a9 \n"[r.Intn(11)]
		if l, e := label.Parse(string(b)); e == api.OK {
			if again, _ := label.Text(l); again != string(b) {
				t.Fatal(string(b), l)
			}
		}
	}
}

func TestP8_4Memory(t *testing.T) {
	l := set("a", "1", "b", "2", "c", "3")
	by := []string{"b", "c", "z"}
	part := label.Part(l[:2], by[:1]...)
	part[0].Value = "9"
	_ = append(part, api.Label{})
	part = label.Part(l[:2], "a", "b")
	part[0].Value = "9"
	_ = append(part, api.Label{})
	if !slices.Equal(l, set("a", "1", "b", "2", "c", "3")) || by[2] != "z" {
		t.Error("what is handed in is changed")
	}
	p, _ := label.Parse(`{a="1"}`)
	p[0].Value = "9"
	if q, _ := label.Parse(`{a="1"}`); q[0].Value != "1" {
		t.Error("an answer is kept")
	}
}
