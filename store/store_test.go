package store_test

import (
	"bytes"
	"fmt"
	"hash/crc32"
	"math"
	"math/rand"
	"reflect"
	"slices"
	"strings"
	"testing"

	"entrepot/api"
	"entrepot/store"
)

func put(key, data string) api.Call {
	return api.Call{Kind: api.Put, Key: key, Data: []byte(data)}
}

func putIf(key, data string, ver int) api.Call {
	return api.Call{Kind: api.PutIf, Key: key, Data: []byte(data), Ver: ver}
}

func get(key string) api.Call    { return api.Call{Kind: api.Get, Key: key} }
func create(key string) api.Call { return api.Call{Kind: api.Create, Key: key} }
func del(key string) api.Call    { return api.Call{Kind: api.Delete, Key: key} }
func complete(id, n int) api.Call {
	return api.Call{Kind: api.Complete, ID: id, N: n}
}
func abort(id int) api.Call  { return api.Call{Kind: api.Abort, ID: id} }
func opened(id int) api.Call { return api.Call{Kind: api.Opened, ID: id} }
func part(id, n int, data string) api.Call {
	return api.Call{Kind: api.Part, ID: id, N: n, Data: []byte(data)}
}
func list(key, behind string) api.Call {
	return api.Call{Kind: api.List, Key: key, Data: []byte(behind)}
}
func piece(key string, at, n int) api.Call {
	return api.Call{Kind: api.Range, Key: key, At: at, N: n}
}

// state is all that can be told of a store.
func state(s *store.Store) string {
	text := fmt.Sprint(s.Now(), s.Keys(), s.Uploads(), s.Size())
	for _, key := range s.Keys() {
		r := s.Do(get(key))
		text += fmt.Sprint(key, r.Ver, r.Born, len(r.Data), crc32.ChecksumIEEE(r.Data))
	}
	for id := 0; ; {
		r := s.Do(opened(id))
		text += fmt.Sprint(r)
		if !r.More {
			return text
		}
		id = r.List[len(r.List)-1].Ver
	}
}

// same: are replies the same, nil and empty lists alike?
func same(a, b api.Reply) bool {
	if len(a.Data) == 0 && len(b.Data) == 0 {
		a.Data, b.Data = nil, nil
	}
	if len(a.List) == 0 && len(b.List) == 0 {
		a.List, b.List = nil, nil
	}
	return reflect.DeepEqual(a, b)
}

func do(t *testing.T, s *store.Store, c api.Call, want api.Reply) {
	t.Helper()
	before := ""
	if want.Err != api.OK {
		before = state(s)
	}
	if r := s.Do(c); !same(r, want) {
		t.Errorf("%d %q: %v, not %v", c.Kind, c.Key, r, want)
	}
	if want.Err != api.OK && state(s) != before {
		t.Errorf("%d %q has an error, and changes something", c.Kind, c.Key)
	}
}

func wrong(e api.Errno) api.Reply { return api.Reply{Err: e} }

var badKeys = []string{"", "a b", "\x20", "\x7f", "a\x00", "é", "\xff", strings.Repeat("k", api.MaxKey+1), "aé"}

func TestP14_1Put(t *testing.T) {
	s := store.New()
	s.Tick(3)
	do(t, s, put("a", "x"), api.Reply{Ver: 1, Born: 3})
	s.Tick(2)
	do(t, s, put("b", ""), api.Reply{Ver: 2, Born: 5})
	do(t, s, put("a", "yz"), api.Reply{Ver: 3, Born: 5})
	do(t, s, get("a"), api.Reply{Data: []byte("yz"), Ver: 3, Born: 5})
	do(t, s, get("b"), api.Reply{Ver: 2, Born: 5})
	if s.Size() != 2 || !slices.Equal(s.Keys(), []string{"a", "b"}) {
		t.Error(s.Size(), s.Keys())
	}
	for _, key := range badKeys {
		do(t, s, put(key, strings.Repeat("x", api.MaxData+1)), wrong(api.ErrArg))
		do(t, s, putIf(key, "", 9), wrong(api.ErrArg))
		do(t, s, create(key), wrong(api.ErrArg))
	}
	for _, key := range []string{"!", "~", strings.Repeat("k", api.MaxKey)} {
		if r := s.Do(put(key, "")); r.Err != api.OK {
			t.Error(key, r)
		}
	}
	do(t, s, put("a", strings.Repeat("x", api.MaxData+1)), wrong(api.ErrLong))
	do(t, s, put("a", strings.Repeat("x", api.MaxData)), api.Reply{Ver: 7, Born: 5})
	do(t, s, api.Call{Kind: api.Put, Key: "c", Ver: 77, At: 5, N: 5, ID: 5}, api.Reply{Ver: 8, Born: 5})
}

func TestP14_1PutIf(t *testing.T) {
	s := store.New()
	do(t, s, putIf("a", "x", 1), wrong(api.ErrVer))
	do(t, s, putIf("a", "x", -1), wrong(api.ErrVer))
	do(t, s, putIf("a", "x", 0), api.Reply{Ver: 1})
	do(t, s, putIf("a", "y", 0), wrong(api.ErrVer))
	do(t, s, putIf("a", "y", 2), wrong(api.ErrVer))
	do(t, s, putIf("a", "y", 1), api.Reply{Ver: 2})
	do(t, s, get("a"), api.Reply{Data: []byte("y"), Ver: 2})
	do(t, s, putIf("a", "z", 1), wrong(api.ErrVer))
	do(t, s, putIf("b", "z", 2), wrong(api.ErrVer))
	long := strings.Repeat("x", api.MaxData+1)
	do(t, s, putIf("a", long, 1), wrong(api.ErrVer))
	do(t, s, putIf("a", long, 2), wrong(api.ErrLong))
	do(t, s, del("a"), api.Reply{})
	do(t, s, putIf("a", "z", 2), wrong(api.ErrVer))
	do(t, s, putIf("a", "z", 0), api.Reply{Ver: 3})
}

func TestP14_1ManyObjects(t *testing.T) {
	s := store.New()
	for i := range api.MaxObjects {
		s.Do(put(fmt.Sprint("k", i), "x"))
	}
	do(t, s, put("new", "x"), wrong(api.ErrFull))
	do(t, s, putIf("new", "x", 0), wrong(api.ErrFull))
	do(t, s, putIf("new", "x", 1), wrong(api.ErrVer))
	do(t, s, put("new", strings.Repeat("x", api.MaxData+1)), wrong(api.ErrLong))
	do(t, s, put("k0", "yy"), api.Reply{Ver: api.MaxObjects + 1})
	do(t, s, create("new"), api.Reply{ID: 1})
	do(t, s, create("k1"), api.Reply{ID: 2})
	do(t, s, part(1, 1, "x"), api.Reply{})
	do(t, s, part(2, 1, "x"), api.Reply{})
	do(t, s, complete(1, 1), wrong(api.ErrFull))
	do(t, s, complete(1, 2), wrong(api.ErrForm))
	do(t, s, complete(2, 1), api.Reply{Ver: api.MaxObjects + 2})
	do(t, s, del("k9"), api.Reply{})
	do(t, s, complete(1, 1), api.Reply{Ver: api.MaxObjects + 3})
}

func TestP14_1Room(t *testing.T) {
	s := store.New()
	most := strings.Repeat("x", api.MaxData)
	for i := range api.MaxStore/api.MaxData - 1 {
		s.Do(put(fmt.Sprint("k", i), most))
	}
	do(t, s, create("u"), api.Reply{ID: 1})
	do(t, s, part(1, 1, most[1:]), api.Reply{})
	if s.Size() != api.MaxStore-1 {
		t.Fatal(s.Size())
	}
	do(t, s, part(1, 1, most[1:]), api.Reply{})
	do(t, s, put("z", "xx"), wrong(api.ErrFull))
	do(t, s, putIf("z", "xx", 0), wrong(api.ErrFull))
	do(t, s, part(1, 2, "xx"), wrong(api.ErrFull))
	do(t, s, part(1, 1, most+"x"), wrong(api.ErrLong))
	do(t, s, put("z", "x"), api.Reply{Ver: 16})
	do(t, s, put("z", "xx"), wrong(api.ErrFull))
	do(t, s, put("zz", ""), api.Reply{Ver: 17})
	do(t, s, part(1, 2, ""), api.Reply{})
	do(t, s, part(1, 2, "x"), wrong(api.ErrFull))
	do(t, s, part(1, 1, most), wrong(api.ErrFull))
	do(t, s, put("k0", most[9:]), api.Reply{Ver: 18})
	do(t, s, put("z", "1234567890"), api.Reply{Ver: 19})
	do(t, s, put("z", "12345678901"), wrong(api.ErrFull))
	do(t, s, complete(1, 2), api.Reply{Ver: 20})
	if s.Size() != api.MaxStore {
		t.Error(s.Size())
	}
	do(t, s, put("k1", ""), api.Reply{Ver: 21})
	do(t, s, create("k1"), api.Reply{ID: 2})
	do(t, s, part(2, 1, most), api.Reply{})
	do(t, s, abort(2), api.Reply{})
	if s.Size() != api.MaxStore-api.MaxData {
		t.Error(s.Size())
	}
}

func TestP14_1GetRangeDelete(t *testing.T) {
	s := store.New()
	s.Tick(4)
	s.Do(put("a", "hello"))
	for _, c := range []api.Call{get("b"), piece("b", -1, 9), del("b"), get(""), del("")} {
		do(t, s, c, wrong(api.ErrNone))
	}
	for _, x := range []struct{ at, n int }{{-1, 1}, {0, -1}, {0, 6}, {5, 1}, {4, 2}, {6, 1}, {math.MaxInt, 1}, {1, math.MaxInt}, {math.MaxInt, math.MaxInt}, {math.MinInt, 1}, {math.MinInt, math.MinInt}} {
		do(t, s, piece("a", x.at, x.n), wrong(api.ErrRange))
	}
	for _, x := range []struct {
		at, n int
		want  string
	}{{0, 5, "hello"}, {0, 0, ""}, {5, 0, ""}, {1, 3, "ell"}, {4, 1, "o"}} {
		do(t, s, piece("a", x.at, x.n), api.Reply{Data: []byte(x.want), Ver: 1, Born: 4})
	}
	do(t, s, del("a"), api.Reply{})
	do(t, s, del("a"), wrong(api.ErrNone))
	do(t, s, get("a"), wrong(api.ErrNone))
	if s.Size() != 0 || len(s.Keys()) != 0 {
		t.Error("it isn't gone")
	}
}

func TestP14_1List(t *testing.T) {
	s := store.New()
	var want []api.Item
	for i := range 40 {
		s.Tick(1)
		key := fmt.Sprintf("b/%02d", i)
		r := s.Do(put(key, strings.Repeat("x", i)))
		want = append(want, api.Item{Key: key, Ver: r.Ver, Size: i, Born: i + 1})
	}
	s.Do(put("a", ""))
	s.Do(put("b", ""))
	s.Do(put("c", ""))
	do(t, s, list("b/", ""), api.Reply{List: want[:16], More: true})
	do(t, s, list("b/", "b/15"), api.Reply{List: want[16:32], More: true})
	do(t, s, list("b/", "b/23"), api.Reply{List: want[24:]})
	do(t, s, list("b/", "b/22"), api.Reply{List: want[23:39], More: true})
	do(t, s, list("b/", "b/39"), api.Reply{})
	do(t, s, list("b/", "b/150"), api.Reply{List: want[16:32], More: true})
	do(t, s, list("b/", "a"), api.Reply{List: want[:16], More: true})
	do(t, s, list("b/", "z"), api.Reply{})
	do(t, s, list("b/3", "b/38"), api.Reply{List: want[39:]})
	do(t, s, list("x", ""), api.Reply{})
	do(t, s, list("b/05", ""), api.Reply{List: want[5:6]})
	if r := s.Do(list("", "")); len(r.List) != 16 || r.List[0].Key != "a" || r.List[1].Key != "b" || !r.More {
		t.Error("all", r)
	}
	if r := s.Do(list("", "b/39")); len(r.List) != 1 || r.List[0].Key != "c" || r.More {
		t.Error("the last", r)
	}
}

func TestP14_1Uploads(t *testing.T) {
	s := store.New()
	s.Tick(2)
	do(t, s, create("u"), api.Reply{ID: 1, Born: 2})
	s.Tick(1)
	do(t, s, create("u"), api.Reply{ID: 2, Born: 3})
	for _, c := range []api.Call{part(0, 0, ""), part(3, 1, "x"), part(-1, 1, ""), complete(3, 0), complete(0, 1), abort(3), abort(0)} {
		do(t, s, c, wrong(api.ErrNone))
	}
	for _, n := range []int{0, -1, api.MaxParts + 1, math.MaxInt} {
		do(t, s, part(1, n, strings.Repeat("x", api.MaxData+1)), wrong(api.ErrArg))
	}
	do(t, s, part(1, 1, strings.Repeat("x", api.MaxData+1)), wrong(api.ErrLong))
	for _, n := range []int{0, 1, -1, math.MinInt} {
		do(t, s, complete(1, n), wrong(api.ErrForm))
	}
	do(t, s, part(1, 2, "cd"), api.Reply{})
	do(t, s, complete(1, 1), wrong(api.ErrForm))
	do(t, s, complete(1, 2), wrong(api.ErrForm))
	do(t, s, part(1, 1, "x"), api.Reply{})
	do(t, s, part(1, 1, "ab"), api.Reply{})
	do(t, s, part(1, 3, ""), api.Reply{})
	do(t, s, opened(0), api.Reply{List: []api.Item{{Key: "u", Ver: 1, Size: 4, Born: 2}, {Key: "u", Ver: 2, Born: 3}}})
	if s.Size() != 4 || !slices.Equal(s.Uploads(), []int{1, 2}) {
		t.Error(s.Size(), s.Uploads())
	}
	do(t, s, complete(1, 2), wrong(api.ErrForm))
	do(t, s, complete(1, 4), wrong(api.ErrForm))
	s.Tick(5)
	do(t, s, complete(1, 3), api.Reply{Ver: 1, Born: 8})
	do(t, s, get("u"), api.Reply{Data: []byte("abcd"), Ver: 1, Born: 8})
	do(t, s, complete(1, 3), wrong(api.ErrNone))
	do(t, s, abort(1), wrong(api.ErrNone))
	do(t, s, part(1, 1, ""), wrong(api.ErrNone))
	do(t, s, part(2, 1, "z"), api.Reply{})
	do(t, s, complete(2, 1), api.Reply{Ver: 2, Born: 8})
	do(t, s, get("u"), api.Reply{Data: []byte("z"), Ver: 2, Born: 8})
	do(t, s, create("v"), api.Reply{ID: 3, Born: 8})
	do(t, s, part(3, api.MaxParts, "xyz"), api.Reply{})
	if s.Size() != 4 {
		t.Error(s.Size())
	}
	do(t, s, abort(3), api.Reply{})
	if s.Size() != 1 || len(s.Uploads()) != 0 {
		t.Error(s.Size(), s.Uploads())
	}
	do(t, s, create("v"), api.Reply{ID: 4, Born: 8})
}

func TestP14_1CompleteLong(t *testing.T) {
	s := store.New()
	s.Do(create("u"))
	half := strings.Repeat("x", api.MaxData/2)
	s.Do(part(1, 1, half))
	s.Do(part(1, 2, half))
	s.Do(part(1, 3, "x"))
	do(t, s, complete(1, 3), wrong(api.ErrLong))
	do(t, s, complete(1, 2), wrong(api.ErrForm))
	s.Do(part(1, 3, ""))
	do(t, s, complete(1, 3), api.Reply{Ver: 1})
	s = store.New()
	for i := range api.MaxObjects {
		s.Do(put(fmt.Sprint(i), ""))
	}
	s.Do(create("u"))
	for i := range 3 {
		s.Do(part(1, i+1, half))
	}
	do(t, s, complete(1, 3), wrong(api.ErrLong))
}

func TestP14_1Opened(t *testing.T) {
	s := store.New()
	var want []api.Item
	for i := range api.MaxObjects {
		s.Tick(1)
		do(t, s, create(fmt.Sprint("u", i%7)), api.Reply{ID: i + 1, Born: i + 1})
		want = append(want, api.Item{Key: fmt.Sprint("u", i%7), Ver: i + 1, Born: i + 1})
	}
	do(t, s, create("u"), wrong(api.ErrFull))
	do(t, s, create(""), wrong(api.ErrArg))
	do(t, s, opened(0), api.Reply{List: want[:16], More: true})
	do(t, s, opened(-5), api.Reply{List: want[:16], More: true})
	do(t, s, opened(16), api.Reply{List: want[16:32], More: true})
	do(t, s, opened(api.MaxObjects-16), api.Reply{List: want[api.MaxObjects-16:]})
	do(t, s, opened(api.MaxObjects), api.Reply{})
	do(t, s, abort(2), api.Reply{})
	do(t, s, opened(0), api.Reply{List: append(slices.Clone(want[:1]), want[2:17]...), More: true})
	do(t, s, create("u"), api.Reply{ID: api.MaxObjects + 1, Born: api.MaxObjects})
}

func TestP14_1OtherKinds(t *testing.T) {
	s := store.New()
	for _, kind := range []int{0, -1, 12, math.MinInt, math.MaxInt} {
		do(t, s, api.Call{Kind: kind, Key: "a", N: 1}, wrong(api.ErrArg))
	}
}

func TestP14_2Clock(t *testing.T) {
	s := store.New()
	for _, x := range []struct {
		n   int
		e   api.Errno
		now int
	}{
		{0, api.OK, 0}, {-1, api.ErrArg, 0}, {api.MaxNum + 1, api.ErrArg, 0}, {math.MaxInt, api.ErrArg, 0}, {math.MinInt, api.ErrArg, 0}, {api.MaxNum, api.ErrRange, 0},
		{5, api.OK, 5}, {api.MaxNum - 5, api.ErrRange, 5}, {api.MaxNum - 6, api.OK, api.MaxNum - 1}, {1, api.ErrRange, api.MaxNum - 1}, {0, api.OK, api.MaxNum - 1},
	} {
		if e := s.Tick(x.n); e != x.e || s.Now() != x.now {
			t.Error(x, e, s.Now())
		}
	}
}

func TestP14_2Nil(t *testing.T) {
	var s *store.Store
	if !same(s.Do(put("a", "x")), wrong(api.ErrArg)) || s.Tick(1) != api.ErrArg || s.Now() != 0 || len(s.Keys()) != 0 || len(s.Uploads()) != 0 || s.Size() != 0 || s.Copy() != nil {
		t.Error("a nil store")
	}
}

func TestP14_2Copy(t *testing.T) {
	s := store.New()
	s.Tick(7)
	s.Do(put("a", "x"))
	s.Do(create("u"))
	s.Do(part(1, 1, "p"))
	c := s.Copy()
	if state(c) != state(s) {
		t.Fatal("another one")
	}
	before := state(s)
	c.Do(put("a", "y"))
	c.Do(put("b", "y"))
	c.Do(part(1, 1, "qq"))
	c.Do(part(1, 2, "qq"))
	c.Do(create("v"))
	c.Tick(1)
	if state(s) != before {
		t.Error("the copy isn't apart")
	}
	after := state(c)
	s.Do(del("a"))
	s.Do(abort(1))
	if state(c) != after {
		t.Error("the copy isn't apart")
	}
	do(t, s, put("n", ""), api.Reply{Ver: 2, Born: 7})
	do(t, c, put("n", ""), api.Reply{Ver: 4, Born: 8})
}

func TestP14_3VersionsRise(t *testing.T) {
	r := rand.New(rand.NewSource(1))
	s := store.New()
	ver, id := 0, 0
	kept := map[string]string{}
	for range 1500 {
		key := fmt.Sprint("k", r.Intn(9))
		data := fmt.Sprint(r.Intn(1000))
		old := s.Do(get(key))
		switch r.Intn(6) {
		case 0:
			if a := s.Do(put(key, data)); a.Ver != ver+1 {
				t.Fatal("a version", a.Ver)
			}
			ver++
			kept[key] = data
		case 1:
			a, b := s.Do(putIf(key, data, old.Ver)), s.Do(putIf(key, data+"!", old.Ver))
			if a.Err != api.OK || b.Err != api.ErrVer || a.Ver != ver+1 {
				t.Fatal("two of one version", a, b)
			}
			ver++
			kept[key] = data
		case 2:
			s.Do(del(key))
			delete(kept, key)
		case 3:
			if a := s.Do(create(key)); a.Err == api.OK {
				if a.ID != id+1 {
					t.Fatal("an ID", a.ID)
				}
				id++
				s.Do(part(id, 1, data))
			}
		case 4:
			n := 1 + r.Intn(id+1)
			up := s.Do(opened(n - 1))
			if a := s.Do(complete(n, 1)); a.Err == api.OK {
				if a.Ver != ver+1 {
					t.Fatal("a version", a.Ver)
				}
				ver++
				kept[up.List[0].Key] = string(s.Do(get(up.List[0].Key)).Data)
			}
		default:
			s.Do(abort(1 + r.Intn(id+1)))
		}
		for key, data := range kept {
			if a := s.Do(get(key)); string(a.Data) != data || a.Err != api.OK {
				t.Fatal("what was put isn't got", key)
			}
		}
		if len(s.Keys()) != len(kept) {
			t.Fatal("other keys")
		}
		size := 0
		for _, key := range s.Keys() {
			size += len(s.Do(get(key)).Data)
		}
		for at := 0; ; {
			a := s.Do(opened(at))
			for _, x := range a.List {
				size += x.Size
				at = x.Ver
			}
			if !a.More {
				break
			}
		}
		if s.Size() != size {
			t.Fatal("Size", s.Size(), size)
		}
	}
}

func TestP14_3Memory(t *testing.T) {
	s := store.New()
	b := []byte("hello")
	s.Do(api.Call{Kind: api.Put, Key: "a", Data: b})
	s.Do(create("u"))
	s.Do(api.Call{Kind: api.Part, ID: 1, N: 1, Data: b})
	copy(b, "xxxxx")
	one := s.Do(get("a"))
	if string(one.Data) != "hello" {
		t.Error("Put keeps what it was handed")
	}
	one.Data[0] = 'z'
	two := s.Do(piece("a", 0, 3))
	two.Data[1] = 'z'
	_ = append(two.Data, 'z')
	if !bytes.Equal(s.Do(get("a")).Data, []byte("hello")) {
		t.Error("answers share memory")
	}
	s.Do(complete(1, 1))
	if string(s.Do(get("u")).Data) != "hello" {
		t.Error("Part keeps what it was handed")
	}
	keys := s.Keys()
	keys[0] = "z"
	items := s.Do(list("", ""))
	items.List[0].Key = "z"
	if s.Keys()[0] != "a" || s.Do(list("", "")).List[0].Key != "a" {
		t.Error("lists are shared")
	}
}
