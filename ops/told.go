package ops

import (
	"slices"

	"lockgate/api"
	"lockgate/space"
)

// parts are the folders of which one consists: of the root those of all zones, of others, and of a file, the thing itself.
func (k *seen) parts(x thing) ([]thing, api.Errno) {
	if x.sector != root {
		return []thing{x}, api.OK
	}
	var l []thing
	for zone := range api.Zones {
		top, e := k.top(zone)
		if e != api.OK {
			return nil, e
		}
		l = append(l, top)
	}
	return l, api.OK
}

// readdir tells the names in a folder.
func (d *draft) readdir(a asked) api.Reply {
	x, e := d.walk(a.path)
	switch {
	case e != api.OK:
		return failed(e)
	case x.Kind != api.Folder:
		return failed(api.ErrNotDir)
	}
	parts, e := d.parts(x)
	var names []string
	for _, part := range parts {
		l, bad := d.list(part)
		if bad != api.OK {
			return failed(bad)
		}
		for _, n := range l {
			names = append(names, n.Name)
		}
	}
	slices.Sort(names) // the root's lists stand one behind the other
	return api.Reply{Err: e, Names: names}
}

// stat tells what a thing is.
func (d *draft) stat(a asked) api.Reply {
	x, e := d.walk(a.path)
	if e != api.OK {
		return failed(e)
	}
	parts, e := d.parts(x)
	if e != api.OK {
		return failed(e)
	}
	r := api.Reply{Kind: x.Kind, Links: x.Links}
	for _, part := range parts {
		r.Size += part.Size
	}
	return r
}

// sync has nothing to do: what changed is kept by those who have it.
func (d *draft) sync(asked) api.Reply { return api.Reply{} }

// statfs tells how many sectors are free.
func (d *draft) statfs(asked) api.Reply {
	for zone := range api.Zones {
		if e := d.open(zone); e != api.OK {
			return failed(e)
		}
	}
	return api.Reply{Free: space.Free(d.layout, d.maps)}
}
