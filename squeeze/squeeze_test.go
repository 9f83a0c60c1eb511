package squeeze_test

import (
	"bytes"
	"compress/flate"
	"io"
	"math/rand"
	"slices"
	"testing"

	"entrepot/api"
	"entrepot/inflate"
	"entrepot/squeeze"
)

// naive makes the tokens by looking everywhere.
func naive(b []byte) []squeeze.Token {
	var l []squeeze.Token
	for at := 0; at < len(b); {
		best := squeeze.Token{Byte: b[at]}
		for dist := 1; dist <= at && dist <= 32768; dist++ {
			n := 0
			for at+n < len(b) && n < 258 && b[at+n-dist] == b[at+n] {
				n++
			}
			if n >= 3 && n > best.Len {
				best = squeeze.Token{Len: n, Dist: dist}
			}
		}
		l = append(l, best)
		at += max(1, best.Len)
	}
	return l
}

// some bytes of an alphabet, with repetitions.
func some(r *rand.Rand, n, alphabet int) []byte {
	b := make([]byte, n)
	for i := range b {
		b[i] = byte(r.Intn(alphabet))
		if i > 0 && r.Intn(3) > 0 {
			b[i] = b[i-1-r.Intn(min(i, 90))]
		}
	}
	return b
}

func texts() [][]byte {
	r := rand.New(rand.NewSource(1))
	l := [][]byte{nil, {0}, {143}, {144}, {255}, []byte("aaaaa"), []byte("abcabcab"), bytes.Repeat([]byte{9}, 258), bytes.Repeat([]byte{9}, 259), bytes.Repeat([]byte{9}, 261), bytes.Repeat([]byte{9}, 262)}
	for i := range 256 {
		l = append(l, []byte{byte(i)})
	}
	for range 400 {
		l = append(l, some(r, r.Intn(300), 1+r.Intn(5)), some(r, r.Intn(2000), 256))
	}
	return l
}

func TestP7_1Tokens(t *testing.T) {
	for _, b := range texts() {
		l, e := squeeze.Tokens(b)
		if e != api.OK || !slices.Equal(l, naive(b)) {
			t.Fatalf("% x: %v, %v", b, l, naive(b))
		}
	}
	a := squeeze.Token{Byte: 'a'}
	if l, _ := squeeze.Tokens([]byte("aaaaa")); !slices.Equal(l, []squeeze.Token{a, {Len: 4, Dist: 1}}) {
		t.Error("the first example", l)
	}
	if l, _ := squeeze.Tokens([]byte("abcabcab")); !slices.Equal(l, []squeeze.Token{a, {Byte: 'b'}, {Byte: 'c'}, {Len: 5, Dist: 3}}) {
		t.Error("the second example", l)
	}
	if l, _ := squeeze.Tokens([]byte("ababXabab")); !slices.Equal(l, []squeeze.Token{a, {Byte: 'b'}, {Byte: 'a'}, {Byte: 'b'}, {Byte: 'X'}, {Len: 4, Dist: 5}}) {
		t.Error("two alike aren't three", l)
	}
	if l, _ := squeeze.Tokens([]byte("abcdXabcYabc")); l[len(l)-1] != (squeeze.Token{Len: 3, Dist: 4}) {
		t.Error("of the same length the least distance", l)
	}
	if l, _ := squeeze.Tokens([]byte("abcdXabcYabcd")); l[len(l)-1] != (squeeze.Token{Len: 4, Dist: 9}) {
		t.Error("the longest, however far", l)
	}
}

func TestP7_1Far(t *testing.T) {
	r := rand.New(rand.NewSource(2))
	// No three bytes of the filling stand twice: its bytes are below 128, but not those that are looked for.
	for _, dist := range []int{32767, 32768, 32769} {
		b := append([]byte{200, 201, 202, 203}, make([]byte, dist-4)...)
		for i := 4; i < len(b); i++ {
			b[i] = byte(r.Intn(128))
		}
		b = append(b, 200, 201, 202, 203)
		l, e := squeeze.Tokens(b)
		last := l[len(l)-1]
		if e != api.OK || (last == squeeze.Token{Len: 4, Dist: dist}) != (dist <= 32768) {
			t.Error(dist, last)
		}
		if dist > 32768 && last != (squeeze.Token{Byte: 203}) {
			t.Error("too far", last)
		}
	}
}

func TestP7_1Long(t *testing.T) {
	l, _ := squeeze.Tokens(bytes.Repeat([]byte{7}, 1+258+258+2))
	want := []squeeze.Token{{Byte: 7}, {Len: 258, Dist: 1}, {Len: 258, Dist: 1}, {Byte: 7}, {Byte: 7}}
	if !slices.Equal(l, want) {
		t.Error(l)
	}
}

func TestP7_1ErrLong(t *testing.T) {
	b := make([]byte, api.MaxRaw+1)
	l, e := squeeze.Tokens(b)
	z, f := squeeze.Deflate(b)
	if e != api.ErrLong || f != api.ErrLong || len(l) != 0 || len(z) != 0 {
		t.Error("too many bytes", e, f)
	}
	l, e = squeeze.Tokens(b[1:])
	z, f = squeeze.Deflate(b[1:])
	if e != api.OK || f != api.OK || len(l) != 256 || len(z) > 500 {
		t.Error("as many as may be", e, f, len(l), len(z))
	}
}

func TestP7_1Examples(t *testing.T) {
	if z, e := squeeze.Deflate(nil); !bytes.Equal(z, []byte{3, 0}) || e != api.OK {
		t.Errorf("nothing: % x", z)
	}
	if z, e := squeeze.Deflate([]byte("a")); !bytes.Equal(z, []byte{0x4b, 4, 0}) || e != api.OK {
		t.Errorf("a: % x", z)
	}
}

// fixedSize is how many bytes the form Fixed has.
func fixedSize(l []squeeze.Token) int {
	n := 3 + 7
	for _, t := range l {
		switch {
		case t.Len == 0 && t.Byte < 144:
			n += 8
		case t.Len == 0:
			n += 9
		default:
			n += 7 + 5
			if t.Len >= 115 {
				n++
			}
			for least := 11; least <= t.Len && t.Len < 258; least = 2*(least-3) + 3 {
				n++
			}
			for least := 5; least <= t.Dist; least = 2*(least-1) + 1 {
				n++
			}
		}
	}
	return (n + 7) / 8
}

func TestP7_1Forms(t *testing.T) {
	r := rand.New(rand.NewSource(3))
	all := texts()
	for n := range 40 {
		b := make([]byte, n)
		r.Read(b)
		all = append(all, b)
		for i := range b {
			b[i] |= 0x90
		}
		high := make([]byte, n)
		for i := range high {
			high[i] = byte(144 + 5*i%112)
		}
		all = append(all, high)
	}
	seen := [2]int{}
	for _, b := range all {
		z, e := squeeze.Deflate(b)
		fixed, stored := fixedSize(naive(b)), len(b)+5
		if e != api.OK || len(z) != min(fixed, stored) {
			t.Fatalf("%d bytes have %d, not the least of %d and %d", len(b), len(z), fixed, stored)
		}
		kind := 0
		if fixed < stored {
			kind = 1
		}
		seen[kind]++
		if int(z[0]) != int(z[0])&^7|1|kind<<1 {
			t.Fatalf("%d bytes: %d and %d, but the kind is %x", len(b), fixed, stored, z[0])
		}
	}
	if seen[0] == 0 || seen[1] == 0 {
		t.Error("only one form was seen", seen)
	}
}

func TestP7_1Stored(t *testing.T) {
	r := rand.New(rand.NewSource(4))
	for _, n := range []int{40, 65534, 65535, 65536} {
		b := make([]byte, n)
		r.Read(b)
		if n == 40 {
			for i := range b {
				b[i] |= 0x90
			}
		}
		z, _ := squeeze.Deflate(b)
		var want []byte
		for rest := b; ; {
			piece := rest[:min(65535, len(rest))]
			rest = rest[len(piece):]
			last := byte(0)
			if len(rest) == 0 {
				last = 1
			}
			size := uint16(len(piece))
			want = append(want, last, byte(size), byte(size>>8), byte(^size), byte(^size>>8))
			want = append(want, piece...)
			if last == 1 {
				break
			}
		}
		if !bytes.Equal(z, want) {
			t.Error(n, len(z), len(want))
		}
	}
}

func TestP7_2ThereAndBack(t *testing.T) {
	r := rand.New(rand.NewSource(5))
	all := texts()
	for _, alphabet := range []int{1, 2, 3, 4, 16, 256} {
		b := make([]byte, api.MaxRaw)
		for i := range b {
			b[i] = byte(r.Intn(alphabet))
		}
		all = append(all, b, some(r, api.MaxRaw, alphabet), some(r, api.MaxRaw-1, alphabet))
	}
	for n := range 600 {
		all = append(all, bytes.Repeat([]byte{byte(n)}, n))
	}
	for _, b := range all {
		z, e := squeeze.Deflate(b)
		if e != api.OK {
			t.Fatal(e)
		}
		if back, n, e := inflate.Inflate(z, len(b)); e != api.OK || n != len(z) || !bytes.Equal(back, b) {
			t.Fatal(len(b), n, e)
		}
		if back, e := io.ReadAll(flate.NewReader(bytes.NewReader(z))); e != nil || !bytes.Equal(back, b) {
			t.Fatal("another program reads otherwise", len(b), e)
		}
	}
}

func TestP7_3Memory(t *testing.T) {
	b := []byte("abcabcabcxyz")
	squeeze.Tokens(b[:9])
	z, _ := squeeze.Deflate(b[:9])
	l, _ := squeeze.Tokens(b[:9])
	z[0] = 9
	l[0].Byte = 9
	_ = append(z, 9)
	again, _ := squeeze.Deflate(b[:9])
	if string(b) != "abcabcabcxyz" || again[0] == 9 {
		t.Error("memory is shared")
	}
	random := []byte{0x91, 0xf3, 0xa5, 0xc7, 0xe9, 0xb1, 0xd2, 0x99, 0xfe, 0xaa}
	z, _ = squeeze.Deflate(random)
	for i := range z {
		z[i] = 0
	}
	if random[0] != 0x91 || random[9] != 0xaa {
		t.Error("stored bytes are shared")
	}
}
