package block

import (
	"maps"
	"slices"

	"entrepot/api"
	"entrepot/crc"
	"entrepot/nums"
)

// maker makes an index: the spans so far, and of each text of labels the groups that have it.
type maker struct {
	spans []Span
	named map[string][]int
}

// add takes a group in.
func (x *maker) add(i int, rows []api.Row, s Span) {
	x.spans = append(x.spans, s)
	met := map[string]int{}
	for _, row := range rows {
		met[text(row)]++
	}
	for text := range met {
		x.named[text] = append(x.named[text], i)
	}
}

// bytes is the index, not sealed.
func (x *maker) bytes() []byte {
	b := put(nil, len(x.spans))
	for _, s := range x.spans {
		b = put(b, s.At, s.Size, s.Rows, s.First, s.Last)
	}
	b = put(b, len(x.named))
	for _, text := range slices.Sorted(maps.Keys(x.named)) {
		b = append(put(b, len(text)), text...)
		b = put(b, len(x.named[text]))
		b = put(b, x.named[text]...)
	}
	return b
}

// Foot: the index of sealed bytes.
func Foot(b []byte) (Index, api.Errno) {
	text, e := crc.Open(b)
	if e != api.OK {
		return Index{}, e
	}
	c := nums.New(text)
	var x Index
	for range c.Num(api.MaxRows) {
		x.Spans = append(x.Spans, Span{
			At: c.Num(api.MaxData), Size: c.Num(api.MaxData), Rows: c.Num(api.MaxData),
			First: c.Num(api.MaxNum - 1), Last: c.Num(api.MaxNum - 1),
		})
	}
	for range c.Num(api.MaxRows) {
		p := Posting{Text: c.Text(api.MaxWord)}
		for range c.Num(api.MaxRows) {
			p.Groups = append(p.Groups, c.Num(api.MaxData))
		}
		x.Postings = append(x.Postings, p)
	}
	if c.End() != api.OK {
		return Index{}, api.ErrForm
	}
	return x, api.OK
}
