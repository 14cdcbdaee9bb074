package ops

import (
	"slices"

	"lockgate/api"
	"lockgate/entry"
	"lockgate/inode"
)

// create makes a file or a folder.
func (d *draft) create(a asked) api.Reply {
	s, e := d.vacant(a.path)
	if e != api.OK {
		return failed(e)
	}
	sectors, e := d.takeRoom(s.folder, entry.Put(s.list, api.Entry{Name: s.name}), 1)
	if e != api.OK {
		return failed(e)
	}
	kind, last := api.File, len(sectors)-1
	if a.Op == api.OpMkdir {
		kind = api.Folder
	}
	x := thing{inode.New(kind), sectors[last]}
	d.enlist(s.folder, entry.Put(s.list, api.Entry{Name: s.name, Sector: x.sector}), sectors[:last])
	d.keep(x)
	return api.Reply{}
}

// link gives a file one more name.
func (d *draft) link(a asked) api.Reply {
	_, x, e := d.named(a.path)
	switch {
	case e != api.OK:
		return failed(e)
	case x.Kind == api.Folder:
		return failed(api.ErrDir)
	case x.Links == api.MaxLinks:
		return failed(api.ErrSize)
	}
	s, e := d.vacant(a.to)
	if e != api.OK {
		return failed(e)
	}
	l := entry.Put(s.list, api.Entry{Name: s.name, Sector: x.sector})
	more, e := d.takeRoom(s.folder, l, 0)
	if e != api.OK {
		return failed(e)
	}
	d.enlist(s.folder, l, more)
	x.Links++
	d.keep(x)
	return api.Reply{}
}

// unlink takes a name away, and a thing that has no other one.
func (d *draft) unlink(a asked) api.Reply {
	s, x, e := d.named(a.path)
	switch {
	case e != api.OK:
		return failed(e)
	case x.Kind == api.Folder && x.Size > 0:
		return failed(api.ErrEmpty)
	}
	l, _ := entry.Drop(s.list, s.name)
	d.enlist(s.folder, l, nil)
	x.Links--
	if x.Links > 0 {
		d.keep(x)
	} else {
		d.back = append(append(d.back, x.Data...), x.sector)
	}
	return api.Reply{}
}

// inside tells whether a path leads through another one.
func inside(names, through []string) bool {
	return len(names) > len(through) && slices.Equal(names[:len(through)], through)
}

// rename gives a thing another name in the place of one.
func (d *draft) rename(a asked) api.Reply {
	from, x, e := d.named(a.path)
	if e != api.OK {
		return failed(e)
	}
	to, e := d.vacant(a.to)
	switch {
	case e != api.OK:
		return failed(e)
	case inside(a.to, a.path): // nothing is inside a file
		return failed(api.ErrArg)
	}
	rest, _ := entry.Drop(from.list, from.name)
	if to.sector == from.sector {
		to.list = rest
	}
	l := entry.Put(to.list, api.Entry{Name: to.name, Sector: x.sector})
	more, e := d.takeRoom(to.folder, l, 0)
	if e != api.OK {
		return failed(e)
	}
	if to.sector != from.sector {
		d.enlist(from.folder, rest, nil)
	}
	d.enlist(to.folder, l, more)
	return api.Reply{}
}
