package node

import (
	"slices"

	"lockgate/api"
	"lockgate/layout"
	"lockgate/master"
	"lockgate/mode"
)

// master is who keeps the queue of a zone.
func (n *Node) master(zone int) int { return master.Of(zone, n.members()) }

// send sends a note; one to itself is heard at once.
func (n *Node) send(to int, note api.Note) {
	if to == n.id {
		n.hear(n.id, note)
		return
	}
	body, _ := master.Bytes(note)
	n.out.Mails = append(n.out.Mails, api.Mail{To: to, Body: body})
}

// receive takes a note that came by mail. What is said of zones counts in the view in which it is said alone.
func (n *Node) receive(from int, note api.Note) {
	switch {
	case note.Kind == api.NoteBeat:
		n.pulse.Heard(from)
	case n.open() && note.Epoch == n.epoch && slices.Contains(n.members(), from):
		n.hear(from, note)
	}
}

// hear takes a member's note of a zone, and answers it.
func (n *Node) hear(from int, note api.Note) {
	keeper := n.master(note.Res)
	switch note.Kind {
	case api.NoteWant, api.NoteDrop:
		if keeper != n.id {
			return
		}
		for _, t := range n.table.Hear(from, note) {
			n.send(t.Node, t.Note)
		}
	case api.NoteGrant, api.NoteCall:
		if keeper != from {
			return
		}
		for _, answer := range n.holder.Hear(note) {
			n.send(keeper, answer)
		}
	}
}

// giveUp gives up the zones that are called, once all that was done there is home.
func (n *Node) giveUp() {
	for zone := range api.Zones {
		to, called := n.holder.Called(zone)
		if !called || n.firm(zone) {
			continue
		}
		if !n.Kept() {
			n.keep()
			return
		}
		note, _ := n.holder.Drop(zone, to) // to something weaker, as it is called to that
		n.send(n.master(zone), note)
		if to == api.None {
			from := layout.Begin(n.l, zone)
			n.known.Drop(from, from+n.l.Size)
		}
	}
}

// firm tells whether a zone is kept though it is called: the first call that waits needs it, and waits at most for greater ones. As nobody keeps one while waiting for a lesser one, nobody waits in a ring.
func (n *Node) firm(zone int) bool {
	if len(n.waits) == 0 {
		return false
	}
	_, _, modes := n.work(n.waits[0].asks)
	lacks := n.lacks(modes)
	return modes[zone] != api.None && (lacks < 0 || lacks > zone)
}

// lacks is the least zone that the node has not in the mode that is needed; -1, if it has all.
func (n *Node) lacks(modes []int) int {
	for zone, m := range modes {
		if !mode.Covers(n.holder.Mode(zone), m) {
			return zone
		}
	}
	return -1
}
