package store

import (
	"cmp"
	"maps"
	"slices"
	"strings"

	"entrepot/api"
)

// create does Create.
func (s *Store) create(c api.Call) api.Reply {
	if !isKey(c.Key) {
		return failed(api.ErrArg)
	}
	if len(s.uploads) >= api.MaxObjects {
		return failed(api.ErrFull)
	}
	s.id++
	s.uploads[s.id] = upload{key: c.Key, born: s.now, parts: map[int]part{}}
	return api.Reply{ID: s.id, Born: s.now}
}

// part does Part.
func (s *Store) part(c api.Call) api.Reply {
	u, ok := s.uploads[c.ID]
	switch {
	case !ok:
		return failed(api.ErrNone)
	case c.N < 1 || c.N > api.MaxParts:
		return failed(api.ErrArg)
	case len(c.Data) > api.MaxData:
		return failed(api.ErrLong)
	case !s.holds(len(c.Data) - len(u.parts[c.N].data)):
		return failed(api.ErrFull)
	}
	s.size += len(c.Data) - len(u.parts[c.N].data)
	u.parts[c.N] = part{data: string(c.Data)}
	return api.Reply{}
}

// complete does Complete.
func (s *Store) complete(c api.Call) api.Reply {
	u, ok := s.uploads[c.ID]
	if !ok {
		return failed(api.ErrNone)
	}
	if c.N < 1 || c.N != len(u.parts) {
		return failed(api.ErrForm)
	}
	var data strings.Builder
	for i := range c.N {
		p, ok := u.parts[i+1]
		if !ok {
			return failed(api.ErrForm)
		}
		data.WriteString(p.data)
	}
	if data.Len() > api.MaxData {
		return failed(api.ErrLong)
	}
	if _, ok := s.objects[u.key]; !ok && len(s.objects) >= api.MaxObjects {
		return failed(api.ErrFull)
	}
	s.drop(c.ID)
	return s.make(u.key, data.String())
}

// abort does Abort.
func (s *Store) abort(c api.Call) api.Reply {
	if _, ok := s.uploads[c.ID]; !ok {
		return failed(api.ErrNone)
	}
	s.drop(c.ID)
	return api.Reply{}
}

// drop lets an upload go.
func (s *Store) drop(id int) {
	s.size -= s.uploads[id].size()
	delete(s.uploads, id)
}

// size is how many bytes its parts have.
func (u upload) size() int {
	n := 0
	for _, p := range u.parts {
		n += len(p.data)
	}
	return n
}

// list does List.
func (s *Store) list(c api.Call) api.Reply {
	behind := string(c.Data)
	wanted := func(key string) bool { return strings.HasPrefix(key, c.Key) && key > behind }
	return page(s.objects, wanted, func(key string, o object) api.Item {
		return api.Item{Key: key, Ver: o.ver, Size: len(o.data), Born: o.born}
	})
}

// opened does Opened.
func (s *Store) opened(c api.Call) api.Reply {
	wanted := func(id int) bool { return id > c.ID }
	return page(s.uploads, wanted, func(id int, u upload) api.Item {
		return api.Item{Key: u.key, Ver: id, Size: u.size(), Born: u.born}
	})
}

// page lists the first of those that are wanted, by what they stand under.
func page[K cmp.Ordered, V any](all map[K]V, wanted func(K) bool, item func(K, V) api.Item) api.Reply {
	var r api.Reply
	for _, k := range slices.Sorted(maps.Keys(all)) {
		if !wanted(k) {
			continue
		}
		if len(r.List) == api.MaxPage {
			r.More = true
			break
		}
		r.List = append(r.List, item(k, all[k]))
	}
	return r
}
