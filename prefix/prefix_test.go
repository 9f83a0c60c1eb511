package prefix_test

import (
	"math"
	"math/rand"
	"slices"
	"strings"
	"testing"

	"entrepot/api"
	"entrepot/bits"
	"entrepot/prefix"
)

// words says each symbol's word as noughts and ones, by the rule that the chapter tells.
func words(lengths []int) []string {
	l := make([]string, len(lengths))
	last, any := 0, false
	size := 0
	for n := 1; n <= 15; n++ {
		for sym, have := range lengths {
			if have != n {
				continue
			}
			if any {
				last = (last + 1) << (n - size)
			}
			any, size = true, n
			for i := n - 1; i >= 0; i-- {
				l[sym] += string(rune('0' + last>>i&1))
			}
		}
	}
	return l
}

// complete makes lengths that fit: leaves of a tree that is parted again and again.
func complete(r *rand.Rand, symbols int) []int {
	l := []int{0}
	for len(l) < symbols {
		i := r.Intn(len(l))
		if l[i] < 15 {
			l[i]++
			l = append(l, l[i])
		}
	}
	for range r.Intn(4) {
		l = append(l, 0)
	}
	r.Shuffle(len(l), func(i, j int) { l[i], l[j] = l[j], l[i] })
	return l
}

func TestP5_1Make(t *testing.T) {
	skewed := []int{1, 2, 3, 4, 5, 6, 7, 8, 9, 10, 11, 12, 13, 14, 15, 15}
	for _, x := range []struct {
		lengths []int
		e       api.Errno
	}{
		{nil, api.OK}, {[]int{0, 0}, api.OK}, {make([]int, 320), api.OK},
		{make([]int, 321), api.ErrLong}, {slices.Repeat([]int{16}, 321), api.ErrLong},
		{[]int{16}, api.ErrArg}, {[]int{1, 1, -1}, api.ErrArg}, {[]int{1, 1, 1, 99}, api.ErrArg}, {[]int{math.MinInt}, api.ErrArg},
		{[]int{1}, api.OK}, {[]int{0, 0, 1}, api.OK}, {[]int{1, 1}, api.OK}, {[]int{2, 1, 3, 3}, api.OK}, {skewed, api.OK},
		{[]int{1, 1, 1}, api.ErrForm}, {[]int{2, 2}, api.ErrForm}, {[]int{2}, api.ErrForm}, {[]int{15}, api.ErrForm}, {[]int{0, 1, 2}, api.ErrForm},
		{skewed[:15], api.ErrForm}, {append(slices.Clone(skewed), 15), api.ErrForm}, {slices.Repeat([]int{1}, 320), api.ErrForm},
		{slices.Repeat([]int{8}, 256), api.OK}, {slices.Repeat([]int{8}, 255), api.ErrForm},
		{[]int{1, 2, 2, 15}, api.ErrForm},
	} {
		got, e := prefix.Make(x.lengths)
		if e != x.e || (got == nil) != (e != api.OK) {
			t.Error(x.lengths, e, "not", x.e)
		}
	}
}

func TestP5_2Word(t *testing.T) {
	r := rand.New(rand.NewSource(1))
	all := [][]int{{2, 1, 3, 3}, {1}, {0, 1}, nil, {0, 0}, {15, 1, 2, 3, 4, 5, 6, 7, 8, 9, 10, 11, 12, 13, 14, 15}}
	for range 100 {
		all = append(all, complete(r, 2+r.Intn(300)))
	}
	for _, lengths := range all {
		code, e := prefix.Make(lengths)
		if e != api.OK {
			t.Fatal(lengths, e)
		}
		for sym, want := range words(lengths) {
			word, n, e := code.Word(sym)
			if want == "" {
				if word != 0 || n != 0 || e != api.ErrNone {
					t.Fatal("a symbol without a word", lengths, sym)
				}
				continue
			}
			got := ""
			for i := n - 1; i >= 0; i-- {
				got += string(rune('0' + word>>i&1))
			}
			if got != want || n != len(want) || word>>n != 0 || e != api.OK {
				t.Fatal(lengths, sym, got, want, e)
			}
		}
		for _, sym := range []int{-1, len(lengths), math.MinInt, math.MaxInt} {
			if word, n, e := code.Word(sym); word != 0 || n != 0 || e != api.ErrNone {
				t.Fatal("there is no such symbol", sym, e)
			}
		}
	}
}

func TestP5_2Next(t *testing.T) {
	code, _ := prefix.Make([]int{2, 1, 3, 3})
	var w bits.Writer
	for _, word := range []string{"0", "10", "111", "110", "0", "0"} {
		for _, c := range word {
			w.Bits(uint32(c-'0'), 1)
		}
	}
	r := bits.NewReader(w.Bytes())
	at := 0
	for _, want := range []int{1, 0, 3, 2, 1, 1} {
		sym, e := code.Next(r)
		_, n, _ := code.Word(want)
		at += n
		if sym != want || e != api.OK || r.At() != at {
			t.Fatal(sym, want, e, r.At())
		}
	}
	for _, x := range []struct {
		name    string
		lengths []int
		b       []byte
		e       api.Errno
	}{
		{"the end within a word", []int{9, 9, 8, 7, 6, 5, 4, 3, 2, 1}, []byte{0xff}, api.ErrShort},
		{"the end ahead of a word", []int{1, 1}, nil, api.ErrShort},
		{"the end ahead of the only word", []int{1}, nil, api.ErrShort},
		{"no word begins so", []int{1}, []byte{1}, api.ErrForm},
		{"no words", nil, []byte{1, 2}, api.ErrForm},
		{"no words, noughts", []int{0, 0, 0}, []byte{0}, api.ErrForm},
	} {
		code, _ := prefix.Make(x.lengths)
		if sym, e := code.Next(bits.NewReader(x.b)); sym != 0 || e != x.e {
			t.Error(x.name, sym, e)
		}
	}
}

func TestP5_2Nil(t *testing.T) {
	var none *prefix.Table
	if word, n, e := none.Word(0); word != 0 || n != 0 || e != api.ErrArg {
		t.Error("Word on a nil table")
	}
	if sym, e := none.Next(bits.NewReader([]byte{1})); sym != 0 || e != api.ErrArg {
		t.Error("Next on a nil table")
	}
	code, _ := prefix.Make([]int{1, 1})
	if sym, e := code.Next(nil); sym != 0 || e != api.ErrArg {
		t.Error("Next of a nil reader")
	}
}

func TestP5_3NoWordBeginsAnother(t *testing.T) {
	r := rand.New(rand.NewSource(2))
	for range 20 {
		lengths := complete(r, 2+r.Intn(60))
		code, _ := prefix.Make(lengths)
		var l []string
		for sym := range lengths {
			if word, n, e := code.Word(sym); e == api.OK {
				s := ""
				for i := n - 1; i >= 0; i-- {
					s += string(rune('0' + word>>i&1))
				}
				l = append(l, s)
			}
		}
		for i, a := range l {
			for k, b := range l {
				if i != k && strings.HasPrefix(a, b) {
					t.Fatal(a, b)
				}
			}
		}
	}
}

func TestP5_3ThereAndBack(t *testing.T) {
	r := rand.New(rand.NewSource(3))
	for range 100 {
		lengths := complete(r, 2+r.Intn(300))
		code, e := prefix.Make(lengths)
		if e != api.OK {
			t.Fatal(e)
		}
		var w bits.Writer
		var want []int
		for range 50 {
			sym := r.Intn(len(lengths))
			if word, n, e := code.Word(sym); e == api.OK {
				w.Code(word, n)
				want = append(want, sym)
			}
		}
		back := bits.NewReader(w.Bytes())
		for _, sym := range want {
			if got, e := code.Next(back); got != sym || e != api.OK {
				t.Fatal(got, sym, e)
			}
		}
	}
}

func TestP5_4Memory(t *testing.T) {
	lengths := []int{2, 1, 3, 3, 7}
	code, _ := prefix.Make(lengths[:4])
	if !slices.Equal(lengths, []int{2, 1, 3, 3, 7}) {
		t.Error("lengths that are handed in are changed")
	}
	lengths[0], lengths[1] = 0, 9
	word, n, e := code.Word(0)
	sym, f := code.Next(bits.NewReader([]byte{1}))
	if word != 2 || n != 2 || e != api.OK || sym != 0 || f != api.OK {
		t.Error("lengths that are handed in are kept")
	}
}
