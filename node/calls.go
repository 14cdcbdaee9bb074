package node

import (
	"lockgate/api"
	"lockgate/journal"
	"lockgate/layout"
	"lockgate/mode"
	"lockgate/ops"
)

// sector is what lies in a sector, as far as the node knows. What it has no zone for is no more than a guess at what it will need: that isn't kept.
func (n *Node) sector(at int) string {
	s, ok := n.known.Get(at)
	if ok {
		return s
	}
	s = n.read(at)
	if n.holder.Mode(layout.Zone(n.l, at)) != api.None {
		n.known.Load(at, s)
	}
	return s
}

// work is what a call tells, changes and needs, as far as the node knows.
func (n *Node) work(c api.Call) (api.Reply, []api.Change, []int) { return ops.Do(n.l, n.sector, c) }

// want has the node want a zone, if it doesn't already; true, if it has it then.
func (n *Node) want(zone, m int) bool {
	if n.holder.Wants(zone) != m {
		note, _ := n.holder.Want(zone, m)
		n.send(n.master(zone), note)
	}
	return mode.Covers(n.holder.Mode(zone), m)
}

// fits tells whether changes may be pending beside those that are: in the end, all of them must be one record.
func (n *Node) fits(changes []api.Change) bool {
	row := n.pending()
	for _, c := range changes {
		row = journal.Put(row, c)
	}
	return len(row) <= journal.Room(api.JournalSize)
}

// serve does the calls that wait, up to the first one that has to wait still.
func (n *Node) serve() {
calls:
	for len(n.waits) > 0 {
		first := n.waits[0]
		reply, changes, modes := n.work(first.asks)
		if !n.Up() {
			break calls
		}
		if zone := n.lacks(modes); zone >= 0 {
			if n.want(zone, modes[zone]) {
				continue // behind a look at what lies there, as it is so from now on
			}
			break calls
		}
		if !n.fits(changes) || first.asks.Op == api.OpSync && !n.Kept() {
			n.keep()
			break calls
		}
		n.known.Put(changes...)
		n.waits = n.waits[1:]
		n.out.Done = append(n.out.Done, first.id)
		n.out.Answers = append(n.out.Answers, api.Answer{ID: first.id, Reply: reply})
	}
}
