package ops

import (
	"lockgate/api"
	"lockgate/bitmap"
	"lockgate/layout"
)

// use is what is known of a sector: whether a thing lies there, how many names that has, how many it may have, and how often bytes of things lie there.
type use struct {
	own                bool
	names, most, bytes int
}

// right tells whether all of that may be.
func (u use) right() bool {
	if u.own {
		return u.bytes == 0 && u.names <= u.most
	}
	return u.bytes == 1
}

// uses are those of all sectors of which what was read speaks.
func (k *seen) uses() map[int]use {
	all := map[int]use{}
	for at, x := range k.found {
		all[at] = use{own: true, most: x.Links}
	}
	for _, x := range k.found {
		for _, at := range x.Data {
			u := all[at]
			u.bytes++
			all[at] = u
		}
	}
	for _, l := range k.lists {
		for _, n := range l {
			u := all[n.Sector]
			if !u.own { // it wasn't looked at, and may be a file with many names
				u.own, u.most = true, api.MaxLinks
			}
			u.names++
			all[n.Sector] = u
		}
	}
	return all
}

// sound tells whether what was read can be of one tree: no sector is two things' or has more names than it may have, and those that are something's are taken.
func (k *seen) sound() bool {
	for at, u := range k.uses() {
		zone := layout.Zone(k.layout, at)
		if !u.right() || k.opened[zone] && !bitmap.Has(k.maps[zone], layout.Place(k.layout, at)) {
			return false
		}
	}
	return true
}
