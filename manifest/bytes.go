package manifest

import (
	"math"

	"entrepot/api"
	"entrepot/crc"
	"entrepot/nums"
)

// What a manifest's bytes begin with.
const head = "MANI\x01"

// Encode: a manifest's bytes.
func Encode(m api.Manifest) ([]byte, api.Errno) {
	if !Right(m) {
		return nil, api.ErrForm
	}
	b := numbers([]byte(head), m.Gen, m.Cut, m.Fence)
	b = all(b, m.Entries, func(b []byte, x api.Entry) []byte {
		b = numbers(text(b, x.Key), x.Window)
		return numbers(text(b, x.Part), x.First, x.Last, x.Rows, x.Size, int(x.Sum), x.Born)
	})
	b = all(b, m.Marks, func(b []byte, x api.Mark) []byte { return numbers(b, x.Maker, x.Seq) })
	b = all(b, m.Owners, func(b []byte, x api.Owner) []byte { return numbers(b, x.Agent, x.Life, x.Count) })
	return crc.Seal(b), api.OK
}

// Decode: the manifest of bytes.
func Decode(b []byte) (api.Manifest, api.Errno) {
	plain, e := crc.Open(b)
	if e != api.OK {
		return api.Manifest{}, e
	}
	c := nums.New(plain)
	begin := string(c.Bytes(len(head)))
	m := api.Manifest{Gen: c.Num(api.MaxNum), Cut: c.Num(api.MaxNum), Fence: c.Num(api.MaxNum)}
	m.Entries = each(c, api.MaxEntries, entry)
	m.Marks = each(c, api.MaxMakers, func(c *nums.Cursor) api.Mark {
		return api.Mark{Maker: c.Num(api.MaxMakers), Seq: c.Num(api.MaxNum)}
	})
	m.Owners = each(c, api.MaxAgents, func(c *nums.Cursor) api.Owner {
		return api.Owner{Agent: c.Num(api.MaxAgents), Life: c.Num(api.MaxNum), Count: c.Num(api.MaxNum)}
	})
	if begin != head || c.End() != api.OK || !Right(m) {
		return api.Manifest{}, api.ErrForm
	}
	return m, api.OK
}

// entry reads an entry.
func entry(c *nums.Cursor) api.Entry {
	x := api.Entry{Key: c.Text(api.MaxKey), Window: c.Num(api.MaxNum), Part: c.Text(api.MaxWord)}
	x.First, x.Last = c.Num(api.MaxNum), c.Num(api.MaxNum)
	x.Rows, x.Size = c.Num(api.MaxRows), c.Num(api.MaxData)
	x.Sum, x.Born = uint32(c.Num(math.MaxUint32)), c.Num(api.MaxNum)
	return x
}

// each reads how many there are, and each one.
func each[T any](c *nums.Cursor, most int, one func(*nums.Cursor) T) []T {
	var l []T
	for range c.Num(most) {
		l = append(l, one(c))
	}
	return l
}

// all writes how many there are, and each one.
func all[T any](b []byte, l []T, one func([]byte, T) []byte) []byte {
	b = numbers(b, len(l))
	for _, x := range l {
		b = one(b, x)
	}
	return b
}

// numbers puts numbers behind bytes that are the caller's own.
func numbers(b []byte, l ...int) []byte {
	for _, n := range l {
		b = append(b, nums.PutU(uint64(n))...)
	}
	return b
}

// text puts a text, its length ahead, behind bytes that are the caller's own.
func text(b []byte, s string) []byte { return append(numbers(b, len(s)), s...) }
