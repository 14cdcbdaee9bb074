package check

import (
	"cmp"
	"slices"

	"lockgate/api"
	"lockgate/bitmap"
	"lockgate/entry"
	"lockgate/inode"
	"lockgate/layout"
	"lockgate/pack"
)

// thing is a file or a folder that was reached: its bytes, those of a folder as its list, and by how many names.
type thing struct {
	api.Inode
	bytes string
	list  []api.Entry
	names int
}

// walk is a disk that is gone over, and what was reached there, by sectors.
type walk struct {
	layout  api.Layout
	read    func(sector int) string
	reached map[int]thing
}

// foreign tells whether a sector is none in which a thing, or some of its bytes, may lie.
func (w *walk) foreign(sector int) bool { return layout.Place(w.layout, sector) < things }

// thing reads what lies in a sector, with its bytes.
func (w *walk) thing(at int) (thing, bool) {
	text, _ := pack.Open(w.read(at)) // of what is no sector's text there is none, which is no inode
	n, e := inode.Read(text)
	if e != api.OK || slices.ContainsFunc(n.Data, w.foreign) {
		return thing{}, false
	}
	var b []byte
	for _, sector := range n.Data {
		s := w.read(sector)
		if len(s) != api.SectorSize {
			return thing{}, false
		}
		b = append(b, s...)
	}
	x := thing{Inode: n, bytes: string(b[:n.Size])}
	if n.Kind == api.Folder {
		x.list, e = entry.Read(x.bytes)
	}
	return x, e == api.OK
}

// visit reaches a thing by a name, and, if it is the first one, all that its own list names; may tells which names may stand there.
func (w *walk) visit(at int, may func(name string) bool) bool {
	x, there := w.reached[at]
	if !there {
		var ok bool
		if x, ok = w.thing(at); !ok {
			return false
		}
	}
	x.names++
	w.reached[at] = x
	if there {
		return true
	}
	all := func(string) bool { return true }
	for _, n := range x.list {
		if !may(n.Name) || w.foreign(n.Sector) || !w.visit(n.Sector, all) {
			return false
		}
	}
	return true
}

// all reaches all that is to be reached from the zones' folders; these themselves are reached as if by a name.
func (w *walk) all() bool {
	for zone := range api.Zones {
		root := layout.Root(w.layout, zone)
		ofZone := func(name string) bool { return entry.Zone(name) == zone }
		if !w.visit(root, ofZone) || w.reached[root].Kind != api.Folder {
			return false
		}
	}
	return true
}

// named tells whether all that was reached was so by as many names as it has.
func (w *walk) named() bool {
	for _, x := range w.reached {
		if x.names != x.Links {
			return false
		}
	}
	return true
}

// uses are how often sectors are something's: a thing's own, or of its bytes.
func (w *walk) uses() map[int]int {
	n := map[int]int{}
	for at, x := range w.reached {
		n[at]++
		for _, sector := range x.Data {
			n[sector]++
		}
	}
	return n
}

// fits tells whether no sector is more than one's, and just those that are one's are taken.
func (w *walk) fits(maps []string) bool {
	uses := w.uses()
	for zone, m := range maps {
	places:
		for place := things; place < w.layout.Size; place++ {
			switch n := uses[layout.Begin(w.layout, zone)+place]; {
			case n == 0 && !bitmap.Has(m, place), n == 1 && bitmap.Has(m, place):
				continue places
			}
			return false
		}
	}
	return true
}

// found is a path, and where what it leads to lies.
type found struct {
	path   string
	sector int
}

// below are some paths, and those of all that lies in a folder.
func (w *walk) below(l []found, folder int, path string) []found {
	for _, n := range w.reached[folder].list {
		f := found{path + "/" + n.Name, n.Sector}
		l = w.below(append(l, f), f.sector, f.path)
	}
	return l
}

// lines tells of each path what lies there; files are numbered by their first ones.
func (w *walk) lines() []api.Line {
	var all []found
	for zone := range api.Zones {
		all = w.below(all, layout.Root(w.layout, zone), "")
	}
	slices.SortFunc(all, func(a, b found) int { return cmp.Compare(a.path, b.path) })
	ids := map[int]int{}
	var l []api.Line
	for _, f := range all {
		x := w.reached[f.sector]
		line := api.Line{Path: f.path, Kind: x.Kind}
		if x.Kind == api.File {
			if ids[f.sector] == 0 {
				ids[f.sector] = len(ids) + 1
			}
			line.ID, line.Links, line.Data = ids[f.sector], x.Links, x.bytes
		}
		l = append(l, line)
	}
	return l
}
