package manifest

import (
	"maps"
	"slices"

	"entrepot/api"
)

// Apply: the manifest behind an edit.
func Apply(m api.Manifest, d api.Edit) (api.Manifest, api.Errno) {
	if !Right(m) || !rightEdit(d) {
		return api.Manifest{}, api.ErrForm
	}
	if e := outdated(m, d); e != api.OK {
		return api.Manifest{}, e
	}
	left, e := remaining(m, d)
	if e != api.OK {
		return api.Manifest{}, e
	}
	if m.Gen == api.MaxNum-1 {
		return api.Manifest{}, api.ErrRange
	}
	n := api.Manifest{Gen: m.Gen + 1, Cut: max(m.Cut, d.Cut), Fence: max(m.Fence, d.Fence)}
	for _, x := range d.Add {
		left[x.Key] = x
	}
	maps.DeleteFunc(left, func(_ string, x api.Entry) bool { return x.Window < n.Cut })
	if len(left) > api.MaxEntries {
		return api.Manifest{}, api.ErrLong
	}
	n.Entries = slices.SortedFunc(maps.Values(left), byKey)
	// Of one Maker the marks rise, so the last one put is the greatest.
	n.Marks = slices.Clone(m.Marks)
	for _, x := range d.Marks {
		n.Marks = put(n.Marks, x, byMaker)
	}
	n.Owners = put(slices.Clone(m.Owners), d.By, byAgent)
	return n, api.OK
}

// outdated: was the edit, or what it adds, or its agent's life, overtaken by the manifest?
func outdated(m api.Manifest, d api.Edit) api.Errno {
	owner, ok := look(m.Owners, d.By, byAgent)
	if ok && (owner.Life > d.By.Life || owner.Life == d.By.Life && owner.Count >= d.By.Count) {
		return api.ErrVer
	}
	for _, x := range d.Marks {
		if x.Seq <= Mark(m, x.Maker) {
			return api.ErrDup
		}
	}
	return api.OK
}

// remaining are the entries that aren't dropped, by their keys, if what is added may stand beside them.
func remaining(m api.Manifest, d api.Edit) (map[string]api.Entry, api.Errno) {
	left := map[string]api.Entry{}
	for _, x := range m.Entries {
		left[x.Key] = x
	}
	for _, key := range d.Drop {
		if _, ok := left[key]; !ok {
			return nil, api.ErrLost
		}
		delete(left, key)
	}
	for _, x := range d.Add {
		if x.Born < m.Fence || x.Born < d.Fence {
			return nil, api.ErrFence
		}
	}
	for _, x := range d.Add {
		if _, ok := left[x.Key]; ok {
			return nil, api.ErrExist
		}
	}
	return left, api.OK
}

// put puts x into a rising list of the caller's own, in the place of one that compares like it.
func put[T any](l []T, x T, compare func(a, b T) int) []T {
	at, ok := slices.BinarySearchFunc(l, x, compare)
	if ok {
		l[at] = x
		return l
	}
	return slices.Insert(l, at, x)
}
