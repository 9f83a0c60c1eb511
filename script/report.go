package script

import (
	"strconv"
	"strings"

	"entrepot/api"
	"entrepot/world"
)

// Report: what became of it all.
func Report(w *world.World) string {
	if w == nil {
		return ""
	}
	m := w.Manifest()
	lines := []string{line("gen", strconv.Itoa(m.Gen), "cut", strconv.Itoa(m.Cut), "fence", strconv.Itoa(m.Fence), "blocks", strconv.Itoa(len(m.Entries)))}
	for _, x := range w.Taken() {
		e, told := x.Err, true
		if e == api.OK {
			e, told = x.Outcome, x.Told
		}
		lines = append(lines, line("batch", pair(x.Batch.Maker, x.Batch.Seq), "at", pair(x.Agent, x.Life), word(e, told)))
	}
	for _, x := range w.Asked() {
		lines = append(lines, line("query at", pair(x.Agent, x.Life), answered(x)))
	}
	return strings.Join(lines, "")
}

// answered is the word of a query, and, as only an answer has rows, how many if it was told.
func answered(x api.Asked) string {
	w := word(x.Answer.Err, x.Told)
	if !x.Told {
		return w
	}
	return w + " " + strconv.Itoa(len(x.Answer.Rows))
}

// line is words, one behind the other, and a newline.
func line(words ...string) string { return strings.Join(words, " ") + "\n" }

// pair is two numbers with a dot between them.
func pair(a, b int) string { return strconv.Itoa(a) + "." + strconv.Itoa(b) }

// word is that of an error, if it was told.
func word(e api.Errno, told bool) string {
	if !told {
		return "open"
	}
	switch e {
	case api.OK:
		return "ok"
	case api.ErrForm:
		return "form"
	case api.ErrBig:
		return "big"
	case api.ErrDup:
		return "dup"
	case api.ErrBusy:
		return "busy"
	case api.ErrFailed:
		return "failed"
	case api.ErrExpired:
		return "expired"
	}
	return "error"
}
