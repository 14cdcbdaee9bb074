package tree

import (
	"cmp"
	"slices"

	"lockgate/api"
	"lockgate/entry"
)

// each hands all entries of a folder to a closure.
func (t *Tree) each(folder int, do func(api.Entry)) {
	for zone := range api.Zones {
		for _, e := range t.lists[place{folder, zone}] {
			do(e)
		}
	}
}

// readdir tells the names in a folder.
func (t *Tree) readdir(a asked) api.Reply {
	if t.kind(a.thing) != api.Folder {
		return api.Reply{Err: api.ErrNotDir}
	}
	var l []string
	t.each(a.thing, func(e api.Entry) { l = append(l, e.Name) })
	slices.Sort(l) // the root's lists stand one behind the other
	return api.Reply{Names: l}
}

// stat tells what a thing is.
func (t *Tree) stat(a asked) api.Reply {
	x := t.things[a.thing]
	if x.kind == api.File {
		return api.Reply{Kind: x.kind, Links: x.links, Size: len(x.data)}
	}
	size := 0
	t.each(a.thing, func(e api.Entry) { size += entry.Size([]api.Entry{e}) })
	return api.Reply{Kind: api.Folder, Links: 1, Size: size}
}

// sync has nothing to do, as all is in memory; statfs tells how many sectors are free.
func (t *Tree) sync(asked) api.Reply   { return api.Reply{} }
func (t *Tree) statfs(asked) api.Reply { return api.Reply{Free: t.free} }

// found is a thing's number, and a path that leads to it.
type found struct {
	path   string
	number int
}

// below is all that lies in a folder to which a path leads.
func (t *Tree) below(folder int, path string) []found {
	var l []found
	t.each(folder, func(e api.Entry) {
		x := found{path + "/" + e.Name, e.Sector}
		l = append(l, x)
		if t.kind(x.number) == api.Folder {
			l = append(l, t.below(x.number, x.path)...)
		}
	})
	return l
}

// All tells of each path but the root's what lies there.
func (t *Tree) All() []api.Line {
	if t == nil {
		return nil
	}
	all := t.below(root, "")
	slices.SortFunc(all, func(a, b found) int { return cmp.Compare(a.path, b.path) })
	ids := map[int]int{}
	var l []api.Line
	for _, f := range all {
		x := t.things[f.number]
		line := api.Line{Path: f.path, Kind: x.kind}
		if x.kind == api.File {
			if ids[f.number] == 0 {
				ids[f.number] = len(ids) + 1
			}
			line.ID, line.Links, line.Data = ids[f.number], x.links, x.data
		}
		l = append(l, line)
	}
	return l
}
