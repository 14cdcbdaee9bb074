package tree

import (
	"slices"

	"lockgate/api"
	"lockgate/entry"
)

// spot is where a name stands, or would: in which list.
type spot struct {
	place
	name string
}

// spotOf is where the last one of a path's names stands, or would.
func (t *Tree) spotOf(names []string) (spot, api.Errno) {
	last := len(names) - 1
	folder, e := t.walk(names[:last])
	if e == api.OK && t.kind(folder) != api.Folder {
		e = api.ErrNotDir
	}
	return spot{placeOf(folder, names[last]), names[last]}, e
}

// vacant is where the last one of a path's names would stand, if nothing stands there yet.
func (t *Tree) vacant(names []string) (spot, api.Errno) {
	s, e := t.spotOf(names)
	if _, there := entry.Find(t.lists[s.place], s.name); e == api.OK && there {
		e = api.ErrExist
	}
	return s, e
}

// room tells whether a list may have so many bytes, and there are the sectors that it then needs more, and some beside.
func (t *Tree) room(p place, size, beside int) api.Errno {
	switch {
	case size > api.MaxSize:
		return api.ErrSize
	case more(t.size(p), size)+beside > t.free:
		return api.ErrFull
	}
	return api.OK
}

// long is how many bytes a name needs in a list.
func long(name string) int { return entry.Size([]api.Entry{{Name: name}}) }

// put makes a name that of a thing; drop takes one away.
func (t *Tree) put(s spot, number int) {
	t.keep(s.place, entry.Put(t.lists[s.place], api.Entry{Name: s.name, Sector: number}))
}

func (t *Tree) drop(s spot) {
	l, _ := entry.Drop(t.lists[s.place], s.name)
	t.keep(s.place, l)
}

// create makes a file or a folder.
func (t *Tree) create(a asked) api.Reply {
	s, e := t.vacant(a.path)
	if e == api.OK {
		e = t.room(s.place, t.size(s.place)+long(s.name), 1)
	}
	if e != api.OK {
		return api.Reply{Err: e}
	}
	x := thing{kind: api.File, links: 1}
	if a.Op == api.OpMkdir {
		x.kind = api.Folder
	}
	t.last++
	t.set(t.last, x)
	t.put(s, t.last)
	return api.Reply{}
}

// link gives a file one more name.
func (t *Tree) link(a asked) api.Reply {
	x := t.things[a.thing]
	switch {
	case x.kind == api.Folder:
		return api.Reply{Err: api.ErrDir}
	case x.links == api.MaxLinks:
		return api.Reply{Err: api.ErrSize}
	}
	s, e := t.vacant(a.to)
	if e == api.OK {
		e = t.room(s.place, t.size(s.place)+long(s.name), 0)
	}
	if e != api.OK {
		return api.Reply{Err: e}
	}
	x.links++
	t.set(a.thing, x)
	t.put(s, a.thing)
	return api.Reply{}
}

// unlink takes a name away, and a thing that has no other one.
func (t *Tree) unlink(a asked) api.Reply {
	x := t.things[a.thing]
	if x.kind == api.Folder && t.size(place{folder: a.thing}) > 0 {
		return api.Reply{Err: api.ErrEmpty}
	}
	s, _ := t.spotOf(a.path) // it was walked to
	t.drop(s)
	x.links--
	t.set(a.thing, x)
	return api.Reply{}
}

// inside tells whether a path leads through another one.
func inside(names, through []string) bool {
	return len(names) > len(through) && slices.Equal(names[:len(through)], through)
}

// rename gives a thing another name in the place of one.
func (t *Tree) rename(a asked) api.Reply {
	from, _ := t.spotOf(a.path) // it was walked to
	to, e := t.vacant(a.to)
	if e == api.OK && inside(a.to, a.path) { // nothing is inside a file
		e = api.ErrArg
	}
	if e == api.OK {
		size := t.size(to.place) + long(to.name)
		if from.place == to.place {
			size -= long(from.name)
		}
		e = t.room(to.place, size, 0)
	}
	if e != api.OK {
		return api.Reply{Err: e}
	}
	t.drop(from)
	t.put(to, a.thing)
	return api.Reply{}
}
