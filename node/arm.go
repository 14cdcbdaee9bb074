package node

import (
	"lockgate/api"
	"lockgate/disk"
	"lockgate/pack"
	"lockgate/replay"
	"lockgate/view"
)

// viewSector is where the view lies.
const viewSector = 1

// arm is how a node reaches the disk: by a key, till a command tells an error. What it is to do behind that it doesn't.
type arm struct {
	d    *disk.Disk
	key  int
	told api.Errno // by which it is down; OK, as long as it is up
	view api.View  // as it lies there; of no nodes, if there is none
	lies string    // what lies in its sector
}

// try does a command; false, if it isn't done.
func (a *arm) try(command func() api.Errno) bool {
	if a.told == api.OK {
		a.told = command()
		return a.told == api.OK
	}
	return false
}

// register has the disk know it by a key.
func (a *arm) register(key int) {
	a.key = key
	a.try(func() api.Errno { return a.d.Register(key) })
}

// read is what lies in a sector; nothing, if it is down.
func (a *arm) read(sector int) string {
	s := ""
	a.try(func() api.Errno {
		var e api.Errno
		s, e = a.d.Read(a.key, sector)
		return e
	})
	return s
}

// look looks at the view.
func (a *arm) look() {
	a.lies = a.read(viewSector)
	s, _ := pack.Open(a.lies) // nothing, if it isn't filled; and that is no view
	a.view, _ = view.Read(s)
}

// turn swaps the view for another one, if there is one; false, if it isn't swapped.
func (a *arm) turn(v api.View, ok bool) bool {
	if !ok {
		return false
	}
	s, _ := view.Bytes(v)
	now, _ := pack.Fill(s) // the greatest view is no longer than a sector
	done := a.try(func() api.Errno { return a.d.Swap(a.key, viewSector, a.lies, now) })
	if done {
		a.view, a.lies = v, now
	}
	return done
}

// fence asks for another key to be fenced.
func (a *arm) fence(key int) {
	a.try(func() api.Errno { return a.d.Fence(a.key, key) })
}

// region is what lies in a journal; nothing, if it is down.
func (a *arm) region(base int) []string {
	var l []string
	a.try(func() api.Errno {
		var e api.Errno
		l, e = replay.Look(a.d, a.key, base, api.JournalSize)
		return e
	})
	return l
}

// do does steps; false, if one of them isn't done.
func (a *arm) do(steps []api.Step) bool {
	return a.try(func() api.Errno {
		_, e := replay.Do(a.d, a.key, steps)
		return e
	})
}
