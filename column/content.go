package column

import (
	"slices"

	"entrepot/api"
	"entrepot/bits"
	"entrepot/delta"
	"entrepot/nums"
)

// intsContent is the content of a column of integers.
func intsContent(l []int64) ([]byte, api.Errno) {
	way := delta.Best(l)
	row, e := delta.Encode(l, way)
	if e != api.OK {
		return nil, e
	}
	return append([]byte{byte(way)}, row...), api.OK
}

// contentInts reads integers.
func contentInts(b []byte) []int64 {
	if len(b) == 0 {
		return nil
	}
	l, _ := delta.Decode(b[1:], int(b[0]))
	return l
}

// wordsContent is the content of a column of words.
func wordsContent(l []string) ([]byte, api.Errno) {
	if !sizesFit(l) {
		return nil, api.ErrLong
	}
	known := slices.Compact(slices.Sorted(slices.Values(l)))
	b := number(nil, len(known))
	for _, word := range known {
		b = append(number(b, len(word)), word...)
	}
	b = number(b, len(l))
	for len(l) > 0 {
		n := alike(l)
		place, _ := slices.BinarySearch(known, l[0])
		b = number(number(b, place), n)
		l = l[n:]
	}
	return b, api.OK
}

// contentWords reads words.
func contentWords(b []byte) []string {
	c := nums.New(b)
	var known, l []string
	for range c.Num(api.MaxRows) {
		known = append(known, c.Text(api.MaxWord))
	}
	rows := c.Num(api.MaxRows)
	for len(l) < rows {
		place := c.Num(len(known) - 1)
		n := c.Num(rows - len(l))
		if n == 0 {
			return nil
		}
		l = append(l, slices.Repeat(known[place:place+1], n)...)
	}
	return whole(c, l)
}

// textsContent is the content of a column of texts.
func textsContent(l []string) ([]byte, api.Errno) {
	if !sizesFit(l) {
		return nil, api.ErrLong
	}
	b := number(nil, len(l))
	for _, text := range l {
		b = number(b, len(text))
	}
	for _, text := range l {
		b = append(b, text...)
	}
	return b, api.OK
}

// contentTexts reads texts.
func contentTexts(b []byte) []string {
	c := nums.New(b)
	var sizes []int
	for range c.Num(api.MaxRows) {
		sizes = append(sizes, c.Num(api.MaxWord))
	}
	var l []string
	for _, n := range sizes {
		l = append(l, string(c.Bytes(n)))
	}
	return whole(c, l)
}

// flagsContent is the content of a column of flags.
func flagsContent(l []bool) ([]byte, api.Errno) {
	var w bits.Writer
	for _, flag := range l {
		bit := uint32(0)
		if flag {
			bit = 1
		}
		w.Bits(bit, 1)
	}
	return append(number(nil, len(l)), w.Bytes()...), api.OK
}

// contentFlags reads flags.
func contentFlags(b []byte) []bool {
	c := nums.New(b)
	n := c.Num(api.MaxRows)
	r := bits.NewReader(b[c.At():])
	var l []bool
	for range n {
		bit, _ := r.Bits(1)
		l = append(l, bit == 1)
	}
	return l
}

// number puts a number behind bytes that are the caller's own.
func number(b []byte, n int) []byte { return append(b, nums.PutU(uint64(n))...) }

// whole is what was read, if the cursor met no error and read all.
func whole(c *nums.Cursor, l []string) []string {
	if c.End() != api.OK {
		return nil
	}
	return l
}

// sizesFit: is no text too long?
func sizesFit(l []string) bool {
	return !slices.ContainsFunc(l, func(s string) bool { return len(s) > api.MaxWord })
}

// alike: how many rows in a row have the first one's word?
func alike(l []string) int {
	n := 1
	for n < len(l) && l[n] == l[0] {
		n++
	}
	return n
}
