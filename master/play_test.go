package master_test

import (
	"slices"
	"testing"

	"lockgate/api"
	"lockgate/master"
	"lockgate/queue"
)

// play is some nodes' holders, a table, and the notes between them that are under way.
type play struct {
	t       *testing.T
	res     int
	holders []*master.Holder
	table   *master.Table
	up      []from     // to the table
	down    []api.Told // from it
	taken   int        // how often somebody got something
	passed  int        // how many Grants were passed over
	undone  int        // how often a Call was of what a node hasn't
}

// newPlay is one of so many nodes and resources.
func newPlay(t *testing.T, nodes, res int) *play {
	p := &play{t: t, res: res, table: master.New(here, res)}
	for range nodes {
		p.holders = append(p.holders, master.Hold(here, res))
	}
	return p
}

// safe fails the test, if two nodes have what doesn't fit, or one has more than the table has it have, or more than fits there.
func (p *play) safe() {
	p.t.Helper()
	for res := range p.res {
		q := p.table.Queue(res)
		if e := queue.Check(q); e != api.OK {
			p.t.Fatalf("the table has %s", queueText(q))
		}
		for node, h := range p.holders {
			if got, has := queue.Mode(q, node), h.Mode(res); got < has {
				p.t.Fatalf("node %d has %d of %d, and the table has it have %d", node, has, res, got)
			}
			for other := range node {
				if !fit(h.Mode(res), p.holders[other].Mode(res)) {
					p.t.Fatalf("nodes %d and %d have %d and %d of %d", other, node, p.holders[other].Mode(res), h.Mode(res), res)
				}
			}
		}
	}
}

// send puts what a node says under way.
func (p *play) send(node int, l ...api.Note) {
	for _, n := range l {
		p.up = append(p.up, from{node, n})
	}
}

// sendIf puts what a node says under way, if it says something.
func (p *play) sendIf(node int) func(n api.Note, ok bool) {
	return func(n api.Note, ok bool) {
		if ok {
			p.send(node, n)
		}
	}
}

// obey has a node drop to what it is called to.
func (p *play) obey(node, res int) {
	if m, ok := p.holders[node].Called(res); ok {
		p.sendIf(node)(p.holders[node].Drop(res, m))
	}
}

// listen has a node hear a note of the table.
func (p *play) listen(told api.Told) {
	h, res := p.holders[told.Node], told.Note.Res
	before := h.Mode(res)
	l := h.Hear(told.Note)
	switch {
	case h.Mode(res) > before:
		p.taken++
	case told.Note.Kind == api.NoteGrant:
		p.passed++
	case len(l) > 0:
		p.undone++
	}
	p.send(told.Node, l...)
}

// hearUp has the table hear the note at a place, which is under way no more.
func (p *play) hearUp(at int) {
	f := p.up[at]
	p.up = slices.Delete(p.up, at, at+1)
	p.down = append(p.down, p.table.Hear(f.node, f.note)...)
}

// hearDown has a node hear the note at a place, which is under way no more.
func (p *play) hearDown(at int) {
	told := p.down[at]
	p.down = slices.Delete(p.down, at, at+1)
	p.listen(told)
}

// pass has one of the notes under way, drawn, come, come late, come twice, or get lost.
func (p *play) pass(d *draws) {
	i := d.below(max(len(p.up)+len(p.down), 1))
	switch fate := d.below(8); {
	case i < len(p.up) && fate == 0:
		p.up = slices.Delete(p.up, i, i+1)
	case i < len(p.up) && fate == 1:
		p.up = append(p.up, p.up[i])
	case i < len(p.up):
		p.hearUp(i)
	case i-len(p.up) >= len(p.down):
		// there is none
	case fate == 0:
		p.down = slices.Delete(p.down, i-len(p.up), i-len(p.up)+1)
	case fate == 1:
		p.down = append(p.down, p.down[i-len(p.up)])
	default:
		p.hearDown(i - len(p.up))
	}
}

// step has something drawn be done.
func (p *play) step(d *draws) {
	node, res := d.below(len(p.holders)), d.below(p.res)
	h := p.holders[node]
	switch d.below(16) {
	case 0, 1, 2:
		p.sendIf(node)(h.Want(res, 1+d.below(2)))
	case 3:
		p.sendIf(node)(h.Drop(res, d.below(2)))
	case 4, 5:
		p.obey(node, res)
	case 6:
		p.send(node, h.Again()...)
	case 7:
		p.down = append(p.down, p.table.Nudge()...)
	default:
		p.pass(d)
	}
	// So many under way would be late for ever.
	p.up, p.down = p.up[:min(len(p.up), 40)], p.down[:min(len(p.down), 40)]
}

// P10.6: drawn plays in which notes get lost, come late and come twice: what nodes have is always safe, and the table has each one have a mode that covers it.
func TestPlays(t *testing.T) {
	taken, passed, undone := 0, 0, 0
	for _, kind := range []struct{ many, steps, nodes, res int }{{6000, 60, 2, 1}, {3000, 100, 3, 1}, {800, 300, 3, 2}, {400, 400, 5, 1}, {200, 600, 8, 3}} {
		for i := range kind.many {
			d := draws(i)
			p := newPlay(t, kind.nodes, kind.res)
			for range kind.steps {
				p.step(&d)
				p.safe()
			}
			taken, passed, undone = taken+p.taken, passed+p.passed, undone+p.undone
		}
	}
	if taken < 10000 || passed < 10000 || undone < 10000 {
		t.Errorf("%d times somebody got something, %d times a Grant was passed over, %d times a Call was of what a node hasn't: too few to tell much", taken, passed, undone)
	}
}

// wanted is how many nodes want something.
func (p *play) wanted() int {
	many := 0
	for _, h := range p.holders {
		many += len(h.Again())
	}
	return many
}

// round has all be said once more, all notes come, in order, and all that are called drop.
func (p *play) round() {
	for node, h := range p.holders {
		p.send(node, h.Again()...)
	}
	p.down = append(p.down, p.table.Nudge()...)
	for heard := 0; len(p.up)+len(p.down) > 0; heard++ {
		if heard > 10000 {
			p.t.Fatalf("notes bring others for ever: %d up, %d down are left", len(p.up), len(p.down))
		}
		if len(p.up) > 0 {
			p.hearUp(0)
		} else {
			p.hearDown(0)
		}
		p.safe()
	}
	for node := range p.holders {
		for res := range p.res {
			p.obey(node, res)
		}
	}
}

// P10.2 to P10.5: however much got lost: once notes come, and who is called drops, all that is wanted is had.
func TestAllIsHad(t *testing.T) {
	waited := 0
	for i := range 600 {
		d := draws(7000 + i)
		p := newPlay(t, 2+i%7, 1+i%3)
		for range 200 {
			p.step(&d)
		}
		p.up, p.down = nil, nil
		waited += p.wanted()
		for range 60 {
			p.round()
		}
		if p.wanted() > 0 {
			t.Fatalf("play %d: %d are still waiting", i, p.wanted())
		}
	}
	if waited < 1000 {
		t.Errorf("just %d waited", waited)
	}
}

// P10.6: all ways of a small play in which two nodes want: each note comes at any time, once or twice, or hasn't come yet, and who is called drops at any time.
func TestAllOrders(t *testing.T) {
	ended := 0
	var on func(way []int, depth int)
	on = func(way []int, depth int) {
		p, choices := walk(t, way)
		p.safe()
		if depth == 0 || choices == 0 {
			ended++
			return
		}
		for i := range choices {
			on(append(way[:len(way):len(way)], i), depth-1)
		}
	}
	on(nil, 6)
	if ended < 10000 {
		t.Errorf("just %d ways", ended)
	}
}

// walk is a small play of two nodes, one of which has all, once these choices were made; and how many there are next: one of the notes under way comes, or comes and comes again later; or a node that is called drops.
func walk(t *testing.T, way []int) (*play, int) {
	p := newPlay(t, 2, 1)
	p.sendIf(0)(p.holders[0].Want(0, api.Alone))
	p.hearUp(0)
	p.hearDown(0)
	p.sendIf(0)(p.holders[0].Drop(0, api.Share))
	p.sendIf(1)(p.holders[1].Want(0, api.Alone))
	p.sendIf(0)(p.holders[0].Want(0, api.Alone))
	for _, i := range way {
		notes := len(p.up) + len(p.down)
		switch {
		case i >= 2*notes:
			p.obey(i-2*notes, 0)
		case i/2 < len(p.up):
			if i%2 == 1 {
				p.up = append(p.up, p.up[i/2])
			}
			p.hearUp(i / 2)
		default:
			at := i/2 - len(p.up)
			if i%2 == 1 {
				p.down = append(p.down, p.down[at])
			}
			p.hearDown(at)
		}
	}
	return p, 2*(len(p.up)+len(p.down)) + 2
}
