package master

import (
	"slices"

	"lockgate/api"
	"lockgate/mode"
	"lockgate/queue"
)

// Table keeps who has a master's resources, and who waits for them.
type Table struct {
	epoch, res int
	queues     [api.MaxRes]api.Queue
	lasts      [api.MaxRes][api.MaxNodes]int // by resource, then node: the Seq of its last note that counted
}

// New is one for a view of so many resources, which nobody has.
func New(epoch, res int) *Table { return &Table{epoch: epoch, res: kept(res)} }

// teller tells, of a resource, each claim's node of its mode by a note of that kind.
type teller func(kind, res int, l []api.Claim)

// gather is a teller by which all that is told is put into one list. A note bears the last of the node that it is for, by which that one knows whether it has said something else since.
func (t *Table) gather(all *[]api.Told) teller {
	return func(kind, res int, l []api.Claim) {
		for _, c := range l {
			n := api.Note{Kind: kind, Epoch: t.epoch, Res: res, Mode: c.Mode, Seq: t.lasts[res][c.Node]}
			*all = append(*all, api.Told{Node: c.Node, Note: n})
		}
	}
}

// enough is what a node has, if that covers m.
func enough(q api.Queue, node, m int) []api.Claim {
	has := queue.Mode(q, node)
	if !mode.Covers(has, m) {
		return nil
	}
	return []api.Claim{{Node: node, Mode: has}}
}

// want has a node wait for m. If it does already, it keeps its place, as it may just not have been answered.
func want(q api.Queue, node, m int) (api.Queue, []api.Claim) {
	if queue.Waiting(q, node) == m {
		return q, nil
	}
	return queue.Want(q, node, m)
}

// turn has a node's note count, does what it asks for, and tells what follows.
func (t *Table) turn(node int, n api.Note, do func(q api.Queue, node, m int) (api.Queue, []api.Claim), tell teller) {
	t.lasts[n.Res][node] = n.Seq // first, as what is told bears it
	q, given := do(t.queues[n.Res], node, n.Mode)
	t.queues[n.Res] = q
	tell(api.NoteGrant, n.Res, given)
	tell(api.NoteCall, n.Res, queue.Calls(q))
}

// Hear takes a node's note, and tells who is given what, and who is to go down.
func (t *Table) Hear(node int, n api.Note) []api.Told {
	if t == nil || !among(node, api.MaxNodes) || !meant(n, t.epoch, t.res) {
		return nil
	}
	var all []api.Told
	tell, last := t.gather(&all), t.lasts[n.Res][node]
kinds:
	switch n.Kind {
	case api.NoteWant:
		switch {
		case n.Seq < last, n.Mode == api.None:
			break kinds
		case n.Seq == last: // the Grant may have got lost
			tell(api.NoteGrant, n.Res, enough(t.queues[n.Res], node, n.Mode))
			break kinds
		}
		t.turn(node, n, want, tell)
	case api.NoteDrop:
		if n.Seq <= last {
			break kinds
		}
		t.turn(node, n, queue.Drop, tell)
	}
	return all
}

// Nudge calls once more who is to go down, as Calls and Drops may have got lost.
func (t *Table) Nudge() []api.Told {
	if t == nil {
		return nil
	}
	var all []api.Told
	tell := t.gather(&all)
	for res := range t.res {
		tell(api.NoteCall, res, queue.Calls(t.queues[res]))
	}
	return all
}

// Queue is who has a resource, and who waits for it.
func (t *Table) Queue(res int) api.Queue {
	if t == nil || !among(res, t.res) {
		return api.Queue{}
	}
	q := t.queues[res]
	return api.Queue{Has: slices.Clone(q.Has), Waits: slices.Clone(q.Waits)}
}
