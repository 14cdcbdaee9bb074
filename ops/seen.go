package ops

import (
	"slices"

	"lockgate/api"
	"lockgate/entry"
	"lockgate/inode"
	"lockgate/layout"
	"lockgate/pack"
)

// things is the first place of a zone at which things, and bytes, may lie.
const things = 2

// root is where the root lies, which is in no sector of its own: in a sector in which no thing lies.
const root = 0

// thing is a file or a folder, and its sector.
type thing struct {
	api.Inode
	sector int
}

// folder is one with its list.
type folder struct {
	thing
	list []api.Entry
}

// spot is where a name stands, or would: in which folder.
type spot struct {
	folder
	name string
}

// seen is what was read of the disk, and of what kind it was.
type seen struct {
	layout  api.Layout
	read    func(sector int) string
	sectors map[int]api.Change // each is read once
	found   map[int]thing
	lists   map[int][]api.Entry
	opened  [api.Zones]bool // of which zones the map was read
	maps    []string        // of the others a new one's stand here
}

// look has nothing read yet of a disk whose zones' maps are, on a new one, m.
func look(l api.Layout, read func(sector int) string, m string) seen {
	return seen{layout: l, read: read, sectors: map[int]api.Change{}, found: map[int]thing{}, lists: map[int][]api.Entry{}, maps: []string{m, m, m, m}}
}

// sector is what lies in one; false, if that is no sector's bytes.
func (k *seen) sector(at int) (string, bool) {
	c, ok := k.sectors[at]
	if !ok {
		c = api.Change{Sector: at, S: k.read(at)}
		k.sectors[at] = c
	}
	return c.S, len(c.S) == api.SectorSize
}

// foreign tells whether a sector is none in which a thing, or some of its bytes, may lie.
func (k *seen) foreign(sector int) bool { return layout.Place(k.layout, sector) < things }

// thing is what lies in a sector.
func (k *seen) thing(at int) (thing, api.Errno) {
	s, _ := k.sector(at)
	text, _ := pack.Open(s) // of what is no sector's text there is none, which is no inode
	n, e := inode.Read(text)
	if e != api.OK || slices.ContainsFunc(n.Data, k.foreign) {
		return thing{}, api.ErrBad
	}
	x := thing{n, at}
	k.found[at] = x
	return x, api.OK
}

// bytes are some of a thing's.
func (k *seen) bytes(x thing, from, to int) (string, api.Errno) {
	var b []byte
	for _, p := range inode.Pieces(from, to) {
		s, ok := k.sector(x.Data[p.Index])
		if !ok {
			return "", api.ErrBad
		}
		b = append(b, s[p.From:p.To]...)
	}
	return string(b), api.OK
}

// list is a folder's.
func (k *seen) list(x thing) ([]api.Entry, api.Errno) {
	s, e := k.bytes(x, 0, x.Size)
	if e != api.OK {
		return nil, e
	}
	l, e := entry.Read(s)
	ofRoot, zone := k.foreign(x.sector), layout.Zone(k.layout, x.sector)
	wrong := func(n api.Entry) bool { return k.foreign(n.Sector) || ofRoot && entry.Zone(n.Name) != zone }
	if e != api.OK || slices.ContainsFunc(l, wrong) {
		return nil, api.ErrBad
	}
	k.lists[x.sector] = l
	return l, api.OK
}

// top is the folder of a zone, a part of the root.
func (k *seen) top(zone int) (thing, api.Errno) {
	x, e := k.thing(layout.Root(k.layout, zone))
	if e != api.OK || x.Kind != api.Folder {
		return thing{}, api.ErrBad
	}
	return x, api.OK
}

// holder is the folder in whose list a name stands, or would, that is asked of a thing.
func (k *seen) holder(x thing, name string) (folder, api.Errno) {
	e := api.OK
	switch {
	case x.sector == root:
		x, e = k.top(entry.Zone(name))
	case x.Kind != api.Folder:
		e = api.ErrNotDir
	}
	if e != api.OK {
		return folder{}, e
	}
	l, e := k.list(x)
	return folder{x, l}, e
}

// spotOf is where the last one of a path's names stands, or would.
func (k *seen) spotOf(names []string) (spot, api.Errno) {
	last := len(names) - 1
	x, e := k.walk(names[:last])
	if e != api.OK {
		return spot{}, e
	}
	f, e := k.holder(x, names[last])
	return spot{f, names[last]}, e
}

// named is where the last one of a path's names stands, and what it names.
func (k *seen) named(names []string) (spot, thing, api.Errno) {
	s, e := k.spotOf(names)
	at, there := entry.Find(s.list, s.name)
	if e == api.OK && !there {
		e = api.ErrNone
	}
	if e != api.OK {
		return spot{}, thing{}, e
	}
	x, e := k.thing(at)
	return s, x, e
}

// vacant is where the last one of a path's names would stand, if nothing stands there yet.
func (k *seen) vacant(names []string) (spot, api.Errno) {
	s, e := k.spotOf(names)
	if _, there := entry.Find(s.list, s.name); e == api.OK && there {
		e = api.ErrExist
	}
	return s, e
}

// walk goes from the root into the thing of each of some names.
func (k *seen) walk(names []string) (thing, api.Errno) {
	if len(names) == 0 {
		return thing{inode.New(api.Folder), root}, api.OK
	}
	_, x, e := k.named(names)
	return x, e
}
