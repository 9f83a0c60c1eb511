package block

import (
	"entrepot/api"
	"entrepot/column"
	"entrepot/label"
	"entrepot/nums"
)

// group is a group's bytes.
func group(l []api.Row) ([]byte, api.Errno) {
	var w writer
	w.ints(l, func(x api.Row) int { return x.Time })
	w.ints(l, func(x api.Row) int { return x.Maker })
	w.ints(l, func(x api.Row) int { return x.Seq })
	w.ints(l, func(x api.Row) int { return x.Place })
	w.ints(l, func(x api.Row) int { return x.Kind })
	w.put(column.PutWords(taken(l, text)))
	w.put(column.PutTexts(taken(l, func(x api.Row) string { return x.Text })))
	w.ints(l, func(x api.Row) int { return x.Value })
	w.put(column.PutFlags(taken(l, func(x api.Row) bool { return x.Null })))
	if w.err != api.OK {
		return nil, w.err
	}
	return w.b, api.OK
}

// text is that of a row's labels; a row that is right has one.
func text(x api.Row) string {
	s, _ := label.Text(x.Labels)
	return s
}

// writer gathers columns, each with its length ahead, up to the first error.
type writer struct {
	b   []byte
	err api.Errno
}

// put puts a column's chunk behind the others.
func (w *writer) put(chunk []byte, e api.Errno) {
	if w.err == api.OK {
		w.err = e
	}
	w.b = append(put(w.b, len(chunk)), chunk...)
}

// ints puts a column of integers.
func (w *writer) ints(l []api.Row, field func(api.Row) int) {
	w.put(column.PutInts(taken(l, func(x api.Row) int64 { return int64(field(x)) })))
}

// taken is a column out of rows.
func taken[T any](l []api.Row, field func(api.Row) T) []T {
	var c []T
	for _, x := range l {
		c = append(c, field(x))
	}
	return c
}

// Group: the rows of a group's bytes.
func Group(b []byte) ([]api.Row, api.Errno) {
	c := nums.New(b)
	r := &reader{c: c, ok: true}
	ints(r, func(x *api.Row, n int) { x.Time = n })
	ints(r, func(x *api.Row, n int) { x.Maker = n })
	ints(r, func(x *api.Row, n int) { x.Seq = n })
	ints(r, func(x *api.Row, n int) { x.Place = n })
	ints(r, func(x *api.Row, n int) { x.Kind = n })
	laid(r, column.Words, func(x *api.Row, text string) {
		l, e := label.Parse(text)
		x.Labels = l
		r.ok = r.ok && e == api.OK
	})
	laid(r, column.Texts, func(x *api.Row, text string) { x.Text = text })
	ints(r, func(x *api.Row, n int) { x.Value = n })
	laid(r, column.Flags, func(x *api.Row, flag bool) { x.Null = flag })
	if !r.ok || c.End() != api.OK || len(r.rows) > api.MaxGroup || !right(r.rows) {
		return nil, api.ErrForm
	}
	return r.rows, api.OK
}

// reader reads columns into rows, as long as all is ok.
type reader struct {
	c    *nums.Cursor
	rows []api.Row
	ok   bool
}

// laid lays the next column into the rows; the first one says how many there are.
func laid[T any](r *reader, read func([]byte) ([]T, api.Errno), lay func(*api.Row, T)) {
	l, e := read(r.c.Bytes(r.c.Num(api.MaxData)))
	if r.rows == nil {
		r.rows = make([]api.Row, len(l))
	}
	if e != api.OK || len(l) != len(r.rows) {
		r.ok = false
		return
	}
	for i, x := range l {
		lay(&r.rows[i], x)
	}
}

// ints lays a column of integers.
func ints(r *reader, lay func(*api.Row, int)) {
	laid(r, column.Ints, func(x *api.Row, n int64) { lay(x, int(n)) })
}
