package inflate_test

import (
	"bytes"
	"compress/flate"
	"math"
	"math/rand"
	"slices"
	"strings"
	"testing"

	"entrepot/api"
	"entrepot/bits"
	"entrepot/inflate"
	"entrepot/prefix"
)

// texts are bytes of many kinds.
func texts() [][]byte {
	r := rand.New(rand.NewSource(1))
	l := [][]byte{nil, []byte("a"), []byte("abcabcab"), bytes.Repeat([]byte{0}, api.MaxRaw), []byte(strings.Repeat("the quick brown fox ", 3000))}
	for _, alphabet := range []int{1, 2, 3, 10, 80, 256} {
		for _, n := range []int{3, 50, 700, 20000, api.MaxRaw} {
			b := make([]byte, n)
			for i := range b {
				b[i] = byte(r.Intn(alphabet))
				if i > 300 && r.Intn(3) == 0 {
					b[i] = b[i-1-r.Intn(300)]
				}
			}
			l = append(l, b)
		}
	}
	return l
}

// squeezed is bytes squeezed by another program.
func squeezed(b []byte, level int) []byte {
	var buffer bytes.Buffer
	w, _ := flate.NewWriter(&buffer, level)
	for i := 0; i < len(b); i += 9999 {
		w.Write(b[i:min(i+9999, len(b))])
		if i%2 == 1 {
			w.Flush()
		}
	}
	w.Close()
	return buffer.Bytes()
}

// text writes a squeezed text by hand, and counts its bits.
type text struct {
	w bits.Writer
	n int
}

// bits writes numbers, each with how many bits it has.
func (s *text) bits(l ...int) *text {
	for i := 0; i < len(l); i += 2 {
		s.w.Bits(uint32(l[i]), l[i+1])
		s.n += l[i+1]
	}
	return s
}

// words writes symbols of a code.
func (s *text) words(lengths []int, symbols ...int) *text {
	code, e := prefix.Make(lengths)
	if e != api.OK {
		panic("these lengths don't fit")
	}
	for _, symbol := range symbols {
		word, n, e := code.Word(symbol)
		if e != api.OK {
			panic("no word")
		}
		s.w.Code(word, n)
		s.n += n
	}
	return s
}

func (s *text) bytes() []byte { return s.w.Bytes() }

func (s *text) align() *text { s.w.Align(); return s }

// repeat is a list with a number so often.
func repeat(n, times int) []int {
	l := make([]int, times)
	for i := range l {
		l[i] = n
	}
	return l
}

// fixedLetters are the lengths of kind 1.
func fixedLetters() []int {
	l := append(repeat(8, 144), repeat(9, 112)...)
	return append(append(l, repeat(7, 24)...), repeat(8, 8)...)
}

// third are the lengths of a third code by which all tests tell theirs: words of 3 bits for 0, 1, 2, 3, 8 and the three that repeat.
func third() []int {
	l := repeat(0, 19)
	for _, symbol := range []int{0, 1, 2, 3, 8, 16, 17, 18} {
		l[symbol] = 3
	}
	return l
}

// inOrder are lengths of the third code in the order in which they stand.
func inOrder(l []int) []int {
	var o []int
	for _, i := range []int{16, 17, 18, 0, 8, 7, 9, 6, 10, 5, 11, 4, 12, 3, 13, 2, 14, 1, 15} {
		o = append(o, l[i])
	}
	return o
}

// dynamic begins a last block of kind 2 with so many letters and distances, and its third code.
func dynamic(letters, distances int, code []int) *text {
	s := new(text).bits(1, 1, 2, 2, letters-257, 5, distances-1, 5, 15, 4)
	for _, n := range inOrder(code) {
		s.bits(n, 3)
	}
	return s
}

func check(t *testing.T, name string, b []byte, most int, want string, n int, e api.Errno) {
	t.Helper()
	got, size, f := inflate.Inflate(b, most)
	if f != e || string(got) != want || size != n {
		t.Errorf("%s: %d bytes of %d, %d; not %d bytes of %d, %d", name, len(got), size, f, len(want), n, e)
	}
}

func TestP6_1Inflate(t *testing.T) {
	for i, b := range texts() {
		for _, level := range []int{flate.HuffmanOnly, flate.NoCompression, flate.BestSpeed, flate.BestCompression, flate.DefaultCompression} {
			z := squeezed(b, level)
			got, n, e := inflate.Inflate(z, len(b))
			if e != api.OK || n != len(z) || !bytes.Equal(got, b) {
				t.Fatal(i, level, n, len(z), e)
			}
			if len(b) > 0 {
				check(t, "a lesser limit", z, len(b)-1, "", 0, api.ErrLong)
			}
			check(t, "cut", z[:len(z)-1], len(b), "", 0, api.ErrShort)
		}
	}
}

func TestP6_1Examples(t *testing.T) {
	check(t, "stored", []byte{1, 1, 0, 0xfe, 0xff, 0x61}, 9, "a", 6, api.OK)
	check(t, "nothing", []byte{3, 0}, 0, "", 2, api.OK)
	check(t, "kind 3", []byte{7}, 9, "", 0, api.ErrForm)
	check(t, "a", []byte{0x4b, 4, 0}, 9, "a", 3, api.OK)
	check(t, "a, beyond the limit", []byte{0x4b, 4, 0}, 0, "", 0, api.ErrLong)
	check(t, "cut", []byte{0x4b}, 9, "", 0, api.ErrShort)
	check(t, "none", nil, 9, "", 0, api.ErrShort)
	for _, most := range []int{-1, api.MaxRaw + 1, math.MinInt, math.MaxInt} {
		check(t, "a limit that can't be", []byte{3, 0}, most, "", 0, api.ErrArg)
		check(t, "a limit that can't be, of nothing", nil, most, "", 0, api.ErrArg)
	}
	check(t, "the greatest limit", []byte{3, 0}, api.MaxRaw, "", 2, api.OK)
}

func TestP6_1Stored(t *testing.T) {
	two := []byte{0, 2, 0, 0xfd, 0xff, 'a', 'b', 0xf9, 1, 0, 0xfe, 0xff, 'c', 9}
	check(t, "two blocks; bits ahead of a byte's end play no part", two, 3, "abc", 13, api.OK)
	check(t, "the second block is beyond the limit", two[:10], 2, "", 0, api.ErrLong)
	check(t, "its bytes end", two[:12], 3, "", 0, api.ErrShort)
	check(t, "its numbers end", two[:11], 3, "", 0, api.ErrShort)
	for i := range 16 {
		b := []byte{1, 1, 0, 0xfe, 0xff, 0x61}
		b[3+i/8] ^= 1 << (i % 8)
		check(t, "n isn't n turned", b, 9, "", 0, api.ErrForm)
	}
	check(t, "ErrForm ahead of the bytes", []byte{1, 1, 0, 1, 0}, 9, "", 0, api.ErrForm)
	check(t, "a block of none", []byte{1, 0, 0, 0xff, 0xff}, 0, "", 5, api.OK)
	check(t, "ErrLong ahead of the bytes", []byte{1, 5, 0, 0xfa, 0xff}, 4, "", 0, api.ErrLong)
}

func TestP6_1Lengths(t *testing.T) {
	distances := repeat(5, 32)
	least := []int{3, 4, 5, 6, 7, 8, 9, 10, 11, 13, 15, 17, 19, 23, 27, 31, 35, 43, 51, 59, 67, 83, 99, 115, 131, 163, 195, 227, 258}
	more := []int{0, 0, 0, 0, 0, 0, 0, 0, 1, 1, 1, 1, 2, 2, 2, 2, 3, 3, 3, 3, 4, 4, 4, 4, 5, 5, 5, 5, 0}
	for s := range least {
		for _, extra := range []int{0, 1<<more[s] - 1} {
			z := new(text).bits(1, 1, 1, 2).words(fixedLetters(), 'x', 257+s).bits(extra, more[s]).words(distances, 0).words(fixedLetters(), 256).bytes()
			n := least[s] + extra
			check(t, "a length", z, n+1, strings.Repeat("x", n+1), len(z), api.OK)
			check(t, "a repetition beyond the limit", z, n, "", 0, api.ErrLong)
		}
	}
}

func TestP6_1Distances(t *testing.T) {
	r := rand.New(rand.NewSource(2))
	b := make([]byte, 32768)
	r.Read(b)
	stored := append([]byte{0, 0, 0x80, 0xff, 0x7f}, b...)
	least := []int{1, 2, 3, 4, 5, 7, 9, 13, 17, 25, 33, 49, 65, 97, 129, 193, 257, 385, 513, 769, 1025, 1537, 2049, 3073, 4097, 6145, 8193, 12289, 16385, 24577}
	for d := range least {
		x := max(0, d/2-1)
		for _, extra := range []int{0, 1<<x - 1} {
			z := new(text).bits(1, 1, 1, 2).words(fixedLetters(), 258).words(repeat(5, 32), d).bits(extra, x).words(fixedLetters(), 256).bytes()
			all := append(bytes.Clone(stored), z...)
			want := bytes.Clone(b)
			for range 4 {
				want = append(want, want[len(want)-least[d]-extra])
			}
			check(t, "a distance", all, api.MaxRaw, string(want), len(all), api.OK)
		}
	}
}

func TestP6_1FixedErrors(t *testing.T) {
	fixed := func(symbols ...int) *text { return new(text).bits(1, 1, 1, 2).words(fixedLetters(), symbols...) }
	distances := repeat(5, 32)
	check(t, "letter 286", fixed('a', 286).bits(0, 32).bytes(), 9, "", 0, api.ErrForm)
	check(t, "letter 287", fixed('a', 287).bits(0, 32).bytes(), 9, "", 0, api.ErrForm)
	check(t, "distance 30", fixed('a', 257).words(distances, 30).bits(0, 32).bytes(), 9, "", 0, api.ErrForm)
	check(t, "distance 31", fixed('a', 257).words(distances, 31).bits(0, 32).bytes(), 9, "", 0, api.ErrForm)
	check(t, "beyond the first byte", fixed('a', 257).words(distances, 1).bits(0, 32).bytes(), 9, "", 0, api.ErrForm)
	check(t, "beyond the first byte, and the limit", fixed('a', 257).words(distances, 1).bits(0, 32).bytes(), 1, "", 0, api.ErrForm)
	check(t, "a distance of nothing", fixed(257).words(distances, 0).bits(0, 32).bytes(), 9, "", 0, api.ErrForm)
	check(t, "the end ahead of a distance's bits", fixed('a', 'b', 257).words(distances, 29).bytes(), 9, "", 0, api.ErrShort)
	check(t, "a byte beyond the limit", fixed('a', 'b', 256).bytes(), 1, "", 0, api.ErrLong)
	check(t, "no second block", new(text).bits(0, 1, 1, 2).words(fixedLetters(), 'a', 'b', 256).bits(1, 1).bytes()[:3], 9, "", 0, api.ErrShort)
}

func TestP6_1Dynamic(t *testing.T) {
	// Letters a and 256, and one distance: lengths 97 times 0, 1, 158 times 0, 1, a distance of 1.
	lengths := func(s *text) *text {
		return s.words(third(), 18).bits(97-11, 7).words(third(), 2, 18).bits(138-11, 7).words(third(), 18).bits(20-11, 7).words(third(), 2)
	}
	letters := repeat(0, 258)
	letters[97], letters[256], letters[257] = 2, 2, 1
	z := lengths(dynamic(258, 1, third())).words(third(), 1, 1).words(letters, 97, 257).words([]int{1}, 0).words(letters, 257).words([]int{1}, 0).words(letters, 256)
	check(t, "three letters, a distance", z.bytes(), 9, "aaaaaaa", len(z.bytes()), api.OK)
	z = lengths(dynamic(258, 1, third())).words(third(), 1, 0).words(letters, 97, 256)
	check(t, "no distance has a word", z.bytes(), 9, "a", len(z.bytes()), api.OK)
	z = lengths(dynamic(258, 1, third())).words(third(), 1, 0).words(letters, 97, 257).bits(0, 32)
	check(t, "a distance of none", z.bytes(), 9, "", 0, api.ErrForm)
	z = lengths(dynamic(258, 1, third())).words(third(), 1, 1).words(letters, 97, 257).bits(1, 1, 0, 32)
	check(t, "bits that begin no word", z.bytes(), 9, "", 0, api.ErrForm)
	z = lengths(dynamic(258, 1, third())).words(third(), 2, 1).words(letters, 97, 256)
	check(t, "the letters don't fit", z.bits(0, 32).bytes(), 9, "", 0, api.ErrForm)
	z = lengths(dynamic(258, 2, third())).words(third(), 1, 2, 2).bits(0, 32)
	check(t, "the distances don't fit", z.bytes(), 9, "", 0, api.ErrForm)
	z = lengths(dynamic(258, 4, third())).words(third(), 1, 2, 16).bits(0, 2)
	z.words(letters, 97, 97, 97, 97, 257).words(repeat(2, 4), 3).words(letters, 256)
	check(t, "a length again", z.bytes(), 9, "aaaaaaa", len(z.bytes()), api.OK)
	z = dynamic(257, 1, third()).words(third(), 8, 16).bits(3, 2)
	for range 41 {
		z.words(third(), 16).bits(3, 2)
	}
	z.words(third(), 8, 8, 8, 17).bits(0, 3).bits(0, 32)
	check(t, "letter 256 has no word", z.bytes(), 9, "", 0, api.ErrForm)
}

// noughts tells lengths of 0, 139 to 276 of them.
func noughts(s *text, n int) *text {
	return s.words(third(), 18).bits(127, 7).words(third(), 18).bits(n-138-11, 7)
}

func TestP6_1LengthsAcross(t *testing.T) {
	// The row of lengths is one: the last letter's length is said again for the distances.
	letters := repeat(0, 257)
	letters[255], letters[256] = 1, 1
	z := noughts(dynamic(257, 3, third()), 255).words(third(), 1, 1, 1, 1, 0).words(letters, 255, 256).bytes()
	check(t, "one by one", z, 1, "\xff", len(z), api.OK)
	z = noughts(dynamic(257, 3, third()), 255).words(third(), 1, 16).bits(0, 2).words(third(), 0).words(letters, 255, 256).bytes()
	check(t, "again across", z, 1, "\xff", len(z), api.OK)
	z = noughts(dynamic(257, 2, third()), 255).words(third(), 1, 16).bits(1, 2, 0, 32).bytes()
	check(t, "again, more than there are", z, 1, "", 0, api.ErrForm)
	z = noughts(dynamic(257, 4, third()), 256).words(third(), 2, 16).bits(1, 2, 0, 32).bytes()
	check(t, "256 alone of length 2 doesn't fit", z, 9, "", 0, api.ErrForm)
}

func TestP6_1DynamicErrors(t *testing.T) {
	check(t, "287 letters", new(text).bits(1, 1, 2, 2, 30, 5, 0, 5, 0, 4).bytes(), 9, "", 0, api.ErrForm)
	check(t, "288 letters", new(text).bits(1, 1, 2, 2, 31, 5, 0, 5, 0, 4).bytes(), 9, "", 0, api.ErrForm)
	check(t, "31 distances", new(text).bits(1, 1, 2, 2, 0, 5, 30, 5, 0, 4).bytes(), 9, "", 0, api.ErrForm)
	check(t, "286 letters, 30 distances", new(text).bits(1, 1, 2, 2, 29, 5, 29, 5, 0, 4).bytes(), 9, "", 0, api.ErrShort)
	check(t, "the third number ends", new(text).bits(1, 1, 2, 2, 30, 5, 0, 5).bytes()[:1], 9, "", 0, api.ErrShort)
	bad := third()
	bad[7] = 1
	check(t, "the third code doesn't fit", dynamic(257, 1, bad).bytes(), 9, "", 0, api.ErrForm)
	one := repeat(0, 19)
	one[16] = 1
	check(t, "again, with none ahead", dynamic(257, 1, one).bits(0, 1).bytes(), 9, "", 0, api.ErrForm)
	check(t, "a third code of none", dynamic(257, 1, repeat(0, 19)).bits(0, 32).bytes(), 9, "", 0, api.ErrForm)
	check(t, "a third code's bits that begin no word", dynamic(257, 1, one).bits(1, 1).bits(0, 32).bytes(), 9, "", 0, api.ErrForm)
	most := dynamic(257, 1, third()).words(third(), 18).bits(127, 7).words(third(), 18)
	check(t, "more lengths than there are", most.bits(127, 7).bytes(), 9, "", 0, api.ErrForm)
	z := dynamic(257, 1, third()).words(third(), 18).bits(127, 7).words(third(), 18).bits(119-11, 7).words(third(), 17)
	check(t, "more noughts than there are", z.bits(0, 3).bytes(), 9, "", 0, api.ErrForm)
	z = dynamic(257, 1, third()).words(third(), 18).bits(127, 7).words(third(), 18).bits(118-11, 7).words(third(), 1, 16)
	check(t, "more again than there are", z.bits(0, 2, 0, 32).bytes(), 9, "", 0, api.ErrForm)
}

func TestP6_1AllLengths(t *testing.T) {
	// All lengths from 1 to 15 are told, each by a word of 4 bits.
	third := append(repeat(4, 16), 0, 0, 0)
	letters := repeat(0, 257)
	want := ""
	for i := range 14 {
		letters[i] = i + 1
		want += string([]byte{byte(i)})
	}
	letters[14], letters[256] = 15, 15
	z := dynamic(257, 1, third)
	for _, n := range append(slices.Clone(letters), 0) {
		z.words(third, n)
	}
	for i := range 15 {
		z.words(letters, i)
	}
	z.words(letters, 256)
	check(t, "all lengths", z.bytes(), 15, want+"\x0e", len(z.bytes()), api.OK)
}

func TestP6_1LengthsBeyond(t *testing.T) {
	// Each of these would be right, were the lengths beyond the last one left out.
	letters := repeat(0, 257)
	letters[255], letters[256] = 1, 1
	for _, symbol := range []int{16, 17, 18} {
		z := noughts(dynamic(257, 1, third()), 255).words(third(), 1, 1)
		bits := map[int]int{16: 2, 17: 3, 18: 7}[symbol]
		z.words(third(), symbol).bits(0, bits).words(letters, 256).bits(0, 32)
		check(t, "more lengths than there are", z.bytes(), 9, "", 0, api.ErrForm)
	}
}

func TestP6_1EndsWithin(t *testing.T) {
	// The bits end within what a symbol has more; were these bits 0, all would be over with another error.
	begin := func(k, letters, distances int) *text {
		z := new(text).bits(0, 1, 1, 2)
		for range k {
			z.words(fixedLetters(), 255)
		}
		z.words(fixedLetters(), 256).bits(1, 1, 2, 2, letters-257, 5, distances-1, 5, 15, 4)
		for _, n := range inOrder(third()) {
			z.bits(n, 3)
		}
		return z
	}
	left := func(z *text) int { return 8*len(z.bytes()) - z.n }
	letters := repeat(0, 285)
	letters[256], letters[284] = 1, 1
	seen := [2]int{}
	for k := range 4 {
		z := noughts(begin(k, 257, 1), 247).words(third(), 18)
		if left(z) < 7 {
			seen[0]++
			check(t, "within a repetition's number", z.bytes(), 99, "", 0, api.ErrShort)
		}
		z = noughts(begin(k, 285, 4), 256).words(third(), 1, 17).bits(7, 3).words(third(), 17).bits(7, 3).words(third(), 17).bits(4, 3)
		z.words(third(), 1, 0, 0, 0, 1).words(letters, 284)
		if n := left(z); n > 0 && n < 5 {
			seen[1]++
			check(t, "within a length's number", z.bytes(), 99, "", 0, api.ErrShort)
		}
	}
	if seen[0] == 0 || seen[1] == 0 {
		t.Error("no such end", seen)
	}
}

func TestP6_1DistancesWithoutMeaning(t *testing.T) {
	stored := append([]byte{0, 0x60, 0xea, 0x9f, 0x15}, make([]byte, 60000)...)
	for d := 28; d < 32; d++ {
		z := new(text).bits(1, 1, 1, 2).words(fixedLetters(), 257).words(repeat(5, 32), d).bits(0, d/2-1).words(fixedLetters(), 256).bytes()
		all := append(bytes.Clone(stored), z...)
		if d < 30 {
			check(t, "a distance", all, api.MaxRaw, string(make([]byte, 60003)), len(all), api.OK)
		} else {
			check(t, "no distance", all, api.MaxRaw, "", 0, api.ErrForm)
		}
	}
}

func TestP6_1OrderOfErrors(t *testing.T) {
	// Neither the letters nor the distances fit, and 256 has no word: each of them is ErrForm, but only behind all lengths.
	whole := dynamic(257, 1, third()).words(third(), 18).bits(127, 7).words(third(), 18).bits(119-11, 7).words(third(), 2)
	b := whole.align().bytes()
	check(t, "ErrForm behind the last length", append(b, 0), 9, "", 0, api.ErrForm)
	check(t, "ErrShort ahead of it", b[:len(b)-2], 9, "", 0, api.ErrShort)
}

func TestP6_2WhatStandsBehind(t *testing.T) {
	for _, b := range texts()[:12] {
		z := squeezed(b, flate.BestCompression)
		more := append(bytes.Clone(z), 0xff, 7, 1, 2, 3)
		check(t, "more behind", more, api.MaxRaw, string(b), len(z), api.OK)
	}
}

func TestP6_2Limits(t *testing.T) {
	r := rand.New(rand.NewSource(3))
	short := texts()[:3]
	for range 800 {
		z := squeezed(short[r.Intn(3)], flate.BestCompression)
		if r.Intn(2) == 0 {
			z = make([]byte, 1+r.Intn(30))
			r.Read(z)
			z[0] = z[0]&^7 | byte(r.Intn(8))
		}
		a, n, e := inflate.Inflate(z, api.MaxRaw)
		seen := api.ErrLong
		for most := range 60 {
			b, m, f := inflate.Inflate(z, most)
			same := f == e && m == n && bytes.Equal(a, b)
			if !same && (f != api.ErrLong || seen != api.ErrLong) {
				t.Fatalf("% x: at %d %d, behind %d", z, most, f, seen)
			}
			if same {
				seen = f
			}
			if f == api.OK && len(b) > most {
				t.Fatal("beyond the limit")
			}
		}
	}
}

func TestP6_2AnyBytes(t *testing.T) {
	r := rand.New(rand.NewSource(4))
	for range 20000 {
		z := make([]byte, r.Intn(60))
		r.Read(z)
		got, n, e := inflate.Inflate(z, api.MaxRaw)
		if e != api.OK && (len(got) != 0 || n != 0) {
			t.Fatal("more beside an error")
		}
		if e != api.OK {
			continue
		}
		if again, _, e := inflate.Inflate(z[:n], api.MaxRaw); e != api.OK || !bytes.Equal(again, got) {
			t.Fatalf("% x has %d bytes, but not without the others", z, n)
		}
		if _, _, e := inflate.Inflate(z[:n-1], api.MaxRaw); e != api.ErrShort {
			t.Fatalf("% x has fewer than %d bytes", z, n)
		}
	}
}

func TestP6_3Memory(t *testing.T) {
	z := []byte{1, 1, 0, 0xfe, 0xff, 0x61, 0x62}
	kept := bytes.Clone(z)
	got, _, _ := inflate.Inflate(z[:6], 9)
	got[0] = 'z'
	_ = append(got, 'z')
	if !bytes.Equal(z, kept) {
		t.Error("what is handed in is changed")
	}
	if again, _, _ := inflate.Inflate(z[:6], 9); string(again) != "a" {
		t.Error("an answer is kept")
	}
}
