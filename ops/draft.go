package ops

import (
	"slices"

	"lockgate/api"
	"lockgate/bitmap"
	"lockgate/entry"
	"lockgate/inode"
	"lockgate/journal"
	"lockgate/layout"
	"lockgate/pack"
	"lockgate/space"
)

// plan is what is to lie on the disk.
type plan struct {
	row  []api.Change
	now  []string // the maps
	back []int    // what is needed no more
}

// draft is a call under way: what was read, and what is to lie there.
type draft struct {
	seen
	plan
}

// lay has bytes lie in a sector.
func (p *plan) lay(sector int, s string) {
	p.row = journal.Put(p.row, api.Change{Sector: sector, S: s})
}

// keep has a thing lie in its sector.
func (p *plan) keep(x thing) {
	s, _ := inode.Bytes(x.Inode)
	p.lay(x.sector, fill(s))
}

// resize is a thing with so many bytes. The sectors that it needs more come behind its own ones.
func (p *plan) resize(x thing, size int, more []int) thing {
	all, need := slices.Concat(x.Data, more), inode.Need(size)
	p.back = append(p.back, all[need:]...)
	x.Size, x.Data = size, all[:need]
	return x
}

// enlist gives a folder another list.
func (p *plan) enlist(f folder, l []api.Entry, more []int) {
	s, _ := entry.Bytes(l)
	x := p.resize(f.thing, len(s), more)
	for i, part := range inode.Cut(s) {
		p.lay(x.Data[i], part)
	}
	p.keep(x)
}

// open reads the map of a zone.
func (d *draft) open(zone int) api.Errno {
	if d.opened[zone] {
		return api.OK
	}
	s, _ := d.sector(layout.Begin(d.layout, zone))
	m, ok := pack.Open(s)
	maps := slices.Clone(d.maps)
	maps[zone] = m
	if !ok || !space.Right(d.layout, maps) {
		return api.ErrBad
	}
	d.opened[zone], d.maps, d.now[zone] = true, maps, m
	return api.OK
}

// take takes n sectors, of a zone and then of those behind it. A map is read only if those ahead haven't enough.
func (d *draft) take(zone, n int) ([]int, api.Errno) {
	free := 0
maps:
	for i := range api.Zones {
		at := (zone + i) % api.Zones
		switch {
		case free >= n:
			break maps
		case d.open(at) != api.OK:
			return nil, api.ErrBad
		}
		free += d.layout.Size - bitmap.Count(d.now[at])
	}
	if free < n {
		return nil, api.ErrFull
	}
	now, sectors, _ := space.Take(d.layout, d.now, zone, max(n, 0))
	d.now = now
	return sectors, api.OK
}

// takeFor takes the sectors that a thing with so many bytes needs more, and some beside.
func (d *draft) takeFor(x thing, size, beside int) ([]int, api.Errno) {
	return d.take(layout.Zone(d.layout, x.sector), inode.Need(size)-len(x.Data)+beside)
}

// takeRoom takes the sectors that a folder needs more for another list, and some beside.
func (d *draft) takeRoom(f folder, l []api.Entry, beside int) ([]int, api.Errno) {
	size := entry.Size(l)
	if size > api.MaxSize {
		return nil, api.ErrSize
	}
	return d.takeFor(f.thing, size, beside)
}

// settle gives back what is needed no more, and has the maps that are others now lie on the disk.
func (d *draft) settle() api.Errno {
	for _, sector := range d.back {
		if e := d.open(layout.Zone(d.layout, sector)); e != api.OK {
			return e
		}
	}
	now, _ := space.Give(d.layout, d.now, d.back) // one that isn't taken is seen when all is done
	for zone, m := range now {
		if m != d.maps[zone] {
			d.lay(layout.Begin(d.layout, zone), fill(m))
		}
	}
	return api.OK
}
