package inflate

import (
	"slices"

	"entrepot/api"
	"entrepot/prefix"
)

// The symbols of the third code that aren't lengths.
const (
	again     = 16
	noughts   = 17
	oftenZero = 18
)

// fixedCodes are those of kind 1.
func fixedCodes() codes {
	l := slices.Repeat([]int{8}, 288)
	for i := 144; i < 256; i++ {
		l[i] = 9
	}
	for i := 256; i < 280; i++ {
		l[i] = 7
	}
	// These lengths fit.
	letters, _ := prefix.Make(l)
	distances, _ := prefix.Make(slices.Repeat([]int{5}, 32))
	return codes{letters, distances}
}

// dynamicCodes reads those of kind 2.
func (f *inflater) dynamicCodes() (codes, api.Errno) {
	m, e := f.count(5, 257)
	if e != api.OK {
		return codes{}, e
	}
	n, e := f.count(5, 1)
	if e != api.OK {
		return codes{}, e
	}
	third, e := f.count(4, 4)
	if e != api.OK {
		return codes{}, e
	}
	if m > letters || n > distances {
		return codes{}, api.ErrForm
	}
	code, e := f.thirdCode(third)
	if e != api.OK {
		return codes{}, e
	}
	l, e := f.lengths(code, m+n)
	if e != api.OK {
		return codes{}, e
	}
	if l[ending] == 0 {
		return codes{}, api.ErrForm
	}
	var c codes
	if c.letters, e = prefix.Make(l[:m]); e != api.OK {
		return codes{}, e
	}
	if c.distances, e = prefix.Make(l[m:]); e != api.OK {
		return codes{}, e
	}
	return c, api.OK
}

// count reads a number of so many bits, and adds the least.
func (f *inflater) count(n, least int) (int, api.Errno) {
	v, e := f.Bits(n)
	return int(v) + least, e
}

// thirdCode reads the code by which the lengths are told.
func (f *inflater) thirdCode(n int) (*prefix.Table, api.Errno) {
	var l [len(order)]int
	for i := range n {
		length, e := f.count(3, 0)
		if e != api.OK {
			return nil, e
		}
		l[order[i]] = length
	}
	return prefix.Make(l[:])
}

// lengths reads n lengths in one row.
func (f *inflater) lengths(code *prefix.Table, n int) ([]int, api.Errno) {
	var l []int
	for len(l) < n {
		symbol, e := code.Next(f.Reader)
		if e != api.OK {
			return nil, e
		}
		length, times := symbol, 1
		switch symbol {
		case again:
			if len(l) == 0 {
				return nil, api.ErrForm
			}
			length = l[len(l)-1]
			times, e = f.count(2, 3)
		case noughts:
			length = 0
			times, e = f.count(3, 3)
		case oftenZero:
			length = 0
			times, e = f.count(7, 11)
		}
		if e != api.OK {
			return nil, e
		}
		if times > n-len(l) {
			return nil, api.ErrForm
		}
		l = append(l, slices.Repeat([]int{length}, times)...)
	}
	return l, api.OK
}
