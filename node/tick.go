package node

import (
	"lockgate/api"
	"lockgate/view"
)

// tick is a tick of its pulse, and what is done at each.
func (n *Node) tick() {
	n.pulse.Tick()
	for _, to := range n.others() {
		n.send(to, api.Note{Kind: api.NoteBeat, Epoch: n.view.Epoch})
	}
	if n.epoch == n.view.Epoch {
		for _, late := range n.pulse.Late() {
			n.turn(view.Leave(n.view, n.id, late))
		}
	}
	if view.Chief(n.view) == n.id && view.Enough(n.view) && !n.Busy() && n.Kept() {
		n.tendDead()
	}
	if n.open() {
		n.remind()
	}
}

// tendDead has the dead ones fenced, and behind that the first one replayed, or buried.
func (n *Node) tendDead() {
	fenced := true
	for _, dead := range n.view.Dead {
		if key := view.Key(dead.Node, dead.Inc); n.d.Registered(key) {
			n.fence(key)
			fenced = false
		}
	}
	if fenced && len(n.view.Dead) > 0 {
		n.redo(n.view.Dead[0])
	}
}

// remind says once more what may have got lost of zones.
func (n *Node) remind() {
	for _, t := range n.table.Nudge() {
		n.send(t.Node, t.Note)
	}
	for _, note := range n.holder.Again() {
		n.send(n.master(note.Res), note)
	}
}
