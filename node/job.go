package node

import (
	"lockgate/api"
	"lockgate/journal"
	"lockgate/layout"
	"lockgate/replay"
	"lockgate/view"
)

// job is a row of disk steps that are still to be done: of a record of its own, or of a dead one's.
type job struct {
	steps  []api.Step
	record int        // the number of its own record; 0 of a dead one's
	dead   api.Member // whose record it is else
	done   int        // up to where all is done in the dead one's journal then
}

// pending is what calls changed that is not home.
func (n *Node) pending() []api.Change { return n.known.Dirty(0, api.MaxSectors) }

// keep begins the job that brings home what is pending.
func (n *Node) keep() {
	base, row := layout.Journal(n.l, n.id), n.pending()
	done, _ := journal.Done(n.read(base))
	var log []api.Step
	logged := n.try(func() api.Errno {
		var e api.Errno
		log, e = replay.Log(base, api.JournalSize, done+1, row)
		return e // without numbers left nothing can be kept any more
	})
	if logged {
		n.job = job{steps: append(log, replay.Home(base, done+1, row)...), record: done + 1}
	}
}

// redo begins the job that brings home what is left in a dead one's journal; with nothing left, that one is buried.
func (n *Node) redo(dead api.Member) {
	base := layout.Journal(n.l, dead.Node)
	region := n.region(base)
	if len(region) == 0 {
		return // it is down
	}
	steps, seq := replay.Redo(base, region)
	if len(steps) > 0 {
		n.job = job{steps: steps, dead: dead, done: seq}
		return
	}
	done, _ := journal.Done(region[0])
	n.bury(dead, done)
}

// bury has a dead one be dead no more, unless another one did.
func (n *Node) bury(dead api.Member, done int) {
	if n.turn(view.Bury(n.view, dead.Node, dead.Inc)) {
		n.out.Graves = append(n.out.Graves, api.Grave{Node: dead.Node, Inc: dead.Inc, Done: done})
	}
}

// step does a step of the job.
func (n *Node) step() {
	if !n.Busy() || !n.do(n.job.steps[:1]) {
		return
	}
	n.job.steps = n.job.steps[1:]
	if n.Busy() {
		return
	}
	was := n.job
	n.job = job{}
	if was.record > 0 {
		n.known.Clean(n.pending()...) // no call was done since the job began
		return
	}
	n.bury(was.dead, was.done)
}
