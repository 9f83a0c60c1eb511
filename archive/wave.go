package archive

import (
	"cmp"
	"slices"
	"strconv"

	"entrepot/api"
	"entrepot/block"
	"entrepot/commit"
	"entrepot/manifest"
	"entrepot/merge"
	"entrepot/record"
	"entrepot/upload"
)

// wave is batches that are brought to the store: in the order in which they came, their rows, their blocks' uploads, and then the commit.
type wave struct {
	batches []api.Mark
	rows    []api.Row
	loads   []load
	commit  *commit.Commit
}

// load is a block's upload, and its entry, but for its tick.
type load struct {
	*upload.Upload
	entry api.Entry
}

// caller makes one call after the other.
type caller interface {
	Next(now int) (api.Call, bool)
	Take(r api.Reply, now int) api.Errno
}

// current is what is under way: the first upload that isn't over, or the commit.
func (w *wave) current() caller {
	for _, u := range w.loads {
		if u.State() == upload.Going {
			return u
		}
	}
	return w.commit
}

// due: does a wave begin?
func (a *Archiver) due(now int) bool {
	if a.wave != nil || len(a.waiting) == 0 {
		return false
	}
	return a.flush || a.bay.Most() >= a.conf.Flush || now-a.since >= a.conf.Age
}

// begin begins a wave of all batches that wait.
func (a *Archiver) begin() {
	w := &wave{batches: a.waiting}
	for _, x := range a.bay.Drain() {
		w.rows = append(w.rows, x.X)
	}
	a.wave, a.waiting, a.flush = w, nil, false
	a.build()
}

// build builds the blocks of the wave, each with an upload of its own.
func (a *Archiver) build() {
	w := a.wave
	w.loads, w.commit = nil, nil
	for _, g := range record.Split(w.rows, a.conf.Window, a.conf.By...) {
		b, e := block.Build(g.Rows, a.conf.Group)
		if e != api.OK {
			a.end(api.ErrFailed)
			return
		}
		a.blocks++
		key := api.BlockPrefix + strconv.Itoa(a.agent) + "." + strconv.Itoa(a.life) + "." + strconv.Itoa(a.blocks)
		w.loads = append(w.loads, load{
			Upload: upload.New(key, b, a.conf.Piece, a.conf.Tries, a.conf.Wait),
			entry:  merge.Entry(key, g.Window, g.Part, g.Rows, b, 0),
		})
	}
}

// goOn goes on behind a reply.
func (a *Archiver) goOn() {
	w := a.wave
	if w.commit != nil {
		a.settle()
		return
	}
	for _, u := range w.loads {
		switch u.State() {
		case upload.Failed:
			a.end(api.ErrFailed)
			return
		case upload.Going:
			return
		}
	}
	a.commits++
	w.commit = commit.New(a.edit(), a.conf.Tries, a.conf.Wait)
}

// edit is what the wave commits.
func (a *Archiver) edit() api.Edit {
	d := api.Edit{By: api.Owner{Agent: a.agent, Life: a.life, Count: a.commits}}
	for _, u := range a.wave.loads {
		u.entry.Born = u.Born()
		d.Add = append(d.Add, u.entry)
	}
	d.Marks = slices.SortedFunc(slices.Values(a.wave.batches), func(x, y api.Mark) int {
		return cmp.Or(cmp.Compare(x.Maker, y.Maker), cmp.Compare(x.Seq, y.Seq))
	})
	return d
}

// settle goes on behind the commit, once that is over.
func (a *Archiver) settle() {
	state, e := a.wave.commit.State()
	if state == commit.Going {
		return
	}
	a.known = a.wave.commit.Manifest()
	switch {
	case state == commit.Done:
		a.end(api.OK)
	case state == commit.Refused && e == api.ErrDup:
		a.leave()
	case state == commit.Refused && e == api.ErrFence:
		a.build()
	default:
		a.end(api.ErrFailed)
	}
}

// leave goes on without those batches that were committed already.
func (a *Archiver) leave() {
	w := a.wave
	committed := func(maker, seq int) bool { return seq <= manifest.Mark(a.known, maker) }
	var left []api.Mark
	for _, x := range w.batches {
		if committed(x.Maker, x.Seq) {
			a.tell(x, api.ErrDup)
		} else {
			left = append(left, x)
		}
	}
	w.batches = left
	w.rows = slices.DeleteFunc(w.rows, func(x api.Row) bool { return committed(x.Maker, x.Seq) })
	if len(left) == 0 {
		a.wave = nil
		return
	}
	a.build()
}

// end ends the wave: all its batches have this outcome.
func (a *Archiver) end(e api.Errno) {
	for _, x := range a.wave.batches {
		a.tell(x, e)
	}
	a.wave = nil
}

// tell tells a batch's outcome.
func (a *Archiver) tell(x api.Mark, e api.Errno) {
	a.outcomes = append(a.outcomes, api.Outcome{Maker: x.Maker, Seq: x.Seq, Err: e})
}
