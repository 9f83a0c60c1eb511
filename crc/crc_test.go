package crc_test

import (
	"bytes"
	"hash/crc32"
	"math/rand"
	"testing"

	"entrepot/api"
	"entrepot/crc"
)

// some bytes, of so many.
func some(r *rand.Rand, n int) []byte {
	b := make([]byte, n)
	r.Read(b)
	return b
}

func TestP3_1Sum(t *testing.T) {
	if s := crc.Sum([]byte("123456789")); s != 0xcbf43926 {
		t.Errorf("the example: %x", s)
	}
	if crc.Sum() != 0 || crc.Sum(nil) != 0 || crc.Sum(nil, []byte{}, nil) != 0 {
		t.Error("of nothing")
	}
	for i := range 256 {
		b := []byte{byte(i)}
		if crc.Sum(b) != crc32.ChecksumIEEE(b) {
			t.Fatalf("%x: %x", i, crc.Sum(b))
		}
	}
	r := rand.New(rand.NewSource(1))
	for range 300 {
		a, b, c := some(r, r.Intn(40)), some(r, r.Intn(3)), some(r, r.Intn(400))
		whole := bytes.Join([][]byte{a, b, c}, nil)
		want := crc32.ChecksumIEEE(whole)
		if crc.Sum(whole) != want || crc.Sum(a, b, c) != want {
			t.Fatal("parts")
		}
	}
}

func TestP3_1Digest(t *testing.T) {
	var d crc.Digest
	if d.Sum() != 0 {
		t.Error("the zero value is of nothing")
	}
	r := rand.New(rand.NewSource(2))
	var all []byte
	for range 50 {
		b := some(r, r.Intn(20))
		all = append(all, b...)
		d.Write(b)
		if want := crc32.ChecksumIEEE(all); d.Sum() != want || d.Sum() != want {
			t.Fatal("of all that was written")
		}
	}
	var none *crc.Digest
	none.Write([]byte("a"))
	if none.Sum() != 0 {
		t.Error("a nil one")
	}
}

func TestP3_1Seal(t *testing.T) {
	if !bytes.Equal(crc.Seal(nil), []byte{0, 0, 0, 0}) {
		t.Errorf("of nothing: % x", crc.Seal(nil))
	}
	if want := append([]byte("123456789"), 0x26, 0x39, 0xf4, 0xcb); !bytes.Equal(crc.Seal(want[:9:9]), want) {
		t.Errorf("% x", crc.Seal(want[:9]))
	}
}

func TestP3_1Open(t *testing.T) {
	for _, x := range []struct {
		b []byte
		e api.Errno
	}{
		{nil, api.ErrShort},
		{[]byte{0}, api.ErrShort},
		{[]byte{0, 0, 0}, api.ErrShort},
		{[]byte{0, 0, 0, 0}, api.OK},
		{[]byte{0, 0, 0, 1}, api.ErrSum},
		{[]byte{1, 0, 0, 0}, api.ErrSum},
		{[]byte{0, 0, 0, 0, 0}, api.ErrSum},
		{[]byte("123456789\xcb\xf4\x39\x26"), api.ErrSum},
	} {
		text, e := crc.Open(x.b)
		if e != x.e || len(text) != 0 {
			t.Errorf("% x: % x, %d, not %d", x.b, text, e, x.e)
		}
	}
}

func TestP3_2OpenUndoesSeal(t *testing.T) {
	r := rand.New(rand.NewSource(3))
	for n := range 100 {
		b := some(r, n)
		if text, e := crc.Open(crc.Seal(b)); e != api.OK || !bytes.Equal(text, b) {
			t.Fatal(n, e)
		}
	}
}

func TestP3_2TurnedBits(t *testing.T) {
	r := rand.New(rand.NewSource(4))
	for range 3000 {
		b := crc.Seal(some(r, r.Intn(30)))
		begin := r.Intn(8 * len(b))
		turned := false
		for i := begin; i < begin+32 && i < 8*len(b); i++ {
			if i == begin || r.Intn(2) == 0 {
				b[i/8] ^= 1 << (i % 8)
				turned = true
			}
		}
		if text, e := crc.Open(b); turned && (e != api.ErrSum || len(text) != 0) {
			t.Fatal("turned bits aren't seen", e)
		}
	}
}

func TestP3_3Memory(t *testing.T) {
	room := []byte("abcdefgh\x00\x00\x00\x00")
	sealed := crc.Seal(room[:8])
	if string(room) != "abcdefgh\x00\x00\x00\x00" {
		t.Error("Seal writes into spare room")
	}
	sealed[0] = 'z'
	if room[0] != 'a' {
		t.Error("Seal's answer shares memory")
	}
	sealed = crc.Seal(room[:8])
	text, _ := crc.Open(sealed)
	text[0] = 'z'
	_ = append(text, "wwww"...)
	if !bytes.Equal(sealed, crc.Seal(room[:8])) {
		t.Error("Open's answer shares memory")
	}
	empty := crc.Seal(nil)
	text, _ = crc.Open(empty)
	_ = append(text, 1)
	if !bytes.Equal(empty, []byte{0, 0, 0, 0}) {
		t.Error("an empty answer shares memory")
	}
}
