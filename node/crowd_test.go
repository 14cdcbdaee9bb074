package node_test

import (
	"fmt"
	"slices"
	"testing"

	"lockgate/api"
	"lockgate/bag"
	"lockgate/check"
	"lockgate/layout"
	"lockgate/mode"
	"lockgate/node"
	"lockgate/tree"
	"lockgate/view"
)

// deed is a call that was done, where, and what was told. Kept are those that no fall can undo; lost those that one did undo.
type deed struct {
	id, node, inc      int
	call               api.Call
	reply              api.Reply
	kept, synced, lost bool
}

// crowd is a play: nodes at one disk, mails between them, the calls that were done in their order, and the tree that there should be by them.
type crowd struct {
	*bench
	limit   int
	nodes   [api.MaxNodes]*node.Node
	net     *bag.Net
	calls   map[int]api.Call
	asked   []int // calls that no one answered yet, by their nodes' incarnations
	deeds   []*deed
	records map[[2]int]int // of those that fell: the number of their own record that was under way
	tree    *tree.Tree
	picks   []int // by which fences settle caches in rounds
}

// play is a crowd of which nobody is up.
func play(t *testing.T, sectors, nodes, limit int) *crowd {
	t.Helper()
	b := on(t, sectors, nodes)
	return &crowd{bench: b, limit: limit, net: bag.New(), calls: map[int]api.Call{}, records: map[[2]int]int{}, tree: tree.New(layout.Room(b.l))}
}

// up starts a node that isn't up.
func (c *crowd) up(id int) {
	c.t.Helper()
	if c.nodes[id] != nil {
		return
	}
	c.probes++
	n, e := node.Start(id, c.limit, base+c.probes, c.l, c.d)
	if e == api.ErrFull && len(c.view().Dead) == api.MaxDead {
		return
	}
	if e != api.OK {
		c.t.Fatalf("start of %d: told %v", id, e)
	}
	c.nodes[id] = n
	c.safe()
}

// crash has a node fall.
func (c *crowd) crash(id int) {
	if n := c.nodes[id]; n != nil {
		c.records[[2]int{id, n.Inc()}] = n.Record()
		c.nodes[id] = nil
	}
}

// at has an event come to a node, and holds what it brings against all that was ahead.
func (c *crowd) at(id int, event func(n *node.Node) api.Out) {
	c.t.Helper()
	n := c.nodes[id]
	if n == nil {
		return
	}
	record, kept := n.Record(), n.Kept()
	out := event(n)
	if !n.Up() {
		if !empty(out) {
			c.t.Errorf("%d is down, and told %s", id, show(out))
		}
		c.crash(id)
		return
	}
	for _, g := range out.Graves { // no call is done ahead of these
		c.buried(g)
	}
	if kept = kept || record > 0 && n.Record() != record; kept {
		c.keep(id, n.Inc())
	}
	c.did(id, n.Inc(), kept, out)
	if n.Kept() {
		c.keep(id, n.Inc())
	}
	for _, m := range out.Mails {
		if m.To == id || m.To < 0 || m.To >= c.l.Nodes {
			c.t.Errorf("%d sends to %d", id, m.To)
		}
		c.net.Send(id, m.To, m.Body)
	}
	c.safe()
}

// changes tells whether a call changed something.
func changes(x api.Call, r api.Reply) bool {
	return r.Err == api.OK && x.Op <= api.OpTruncate && x.Op != api.OpRead
}

// did takes the calls that an event had done. As long as all is kept, what changes nothing is kept, too.
func (c *crowd) did(id, inc int, kept bool, out api.Out) {
	c.t.Helper()
	if len(out.Done) != len(out.Answers) {
		c.t.Errorf("%d calls are done, %d answered", len(out.Done), len(out.Answers))
	}
	if v := c.view(); len(out.Done) > 0 && (!view.Open(v) || c.nodes[id].Epoch() != v.Epoch) {
		c.t.Errorf("%d does calls in epoch %d of %v", id, c.nodes[id].Epoch(), v)
	}
	for i, a := range out.Answers {
		call, ok := c.calls[a.ID]
		if !ok || out.Done[i] != a.ID {
			c.t.Errorf("answer to %d, done %d", a.ID, out.Done[i])
		}
		delete(c.calls, a.ID)
		want := c.tree.Do(call)
		if !equal(a.Reply, want) {
			c.t.Errorf("call %d at %d, %v: told %s, want %s", a.ID, id, call, short(a.Reply), short(want))
		}
		kept = kept && !changes(call, a.Reply)
		c.deeds = append(c.deeds, &deed{id: a.ID, node: id, inc: inc, call: call, reply: a.Reply, kept: kept})
		if call.Op == api.OpSync {
			c.of(id, inc, func(x *deed) { x.synced = true })
		}
	}
}

// of does something to all deeds of an incarnation that are not lost.
func (c *crowd) of(id, inc int, do func(x *deed)) {
	for _, x := range c.deeds {
		if x.node == id && x.inc == inc && !x.lost {
			do(x)
		}
	}
}

// keep has all that was done by an incarnation be kept.
func (c *crowd) keep(id, inc int) { c.of(id, inc, func(x *deed) { x.kept = true }) }

// buried is told of a dead one: what it did behind its last record that was whole is lost.
func (c *crowd) buried(g api.Grave) {
	c.t.Helper()
	if n := c.nodes[g.Node]; n != nil && n.Inc() == g.Inc {
		c.crash(g.Node)
	}
	record, lost := c.records[[2]int{g.Node, g.Inc}], false
	c.of(g.Node, g.Inc, func(x *deed) {
		if x.kept = x.kept || record > 0 && record <= g.Done; x.kept {
			return
		}
		if x.synced {
			c.t.Errorf("call %d is lost, which a sync had covered", x.id)
		}
		x.lost, lost = true, true
	})
	if !lost {
		return
	}
	c.tree = tree.New(layout.Room(c.l))
	for _, x := range c.deeds {
		if x.lost {
			continue
		}
		if want := c.tree.Do(x.call); !equal(x.reply, want) {
			c.t.Errorf("without what was lost, call %d was told %s, want %s", x.id, short(x.reply), short(want))
		}
	}
}

// safe holds modes of zones against what may be.
func (c *crowd) safe() {
	c.t.Helper()
	v := c.view()
	for zone := range api.Zones {
		var l []api.Claim
		for _, m := range v.Members {
			if n := c.nodes[m.Node]; n != nil && n.Inc() == m.Inc {
				l = append(l, api.Claim{Node: m.Node, Mode: n.Mode(zone)})
			}
		}
		if !mode.Safe(l) {
			c.t.Fatalf("zone %d is had as %v", zone, l)
		}
	}
}

// call asks a node for a call.
func (c *crowd) call(id int, x api.Call) {
	c.t.Helper()
	if c.nodes[id] == nil || c.nodes[id].Waits() == api.MaxCalls {
		return
	}
	c.asked = append(c.asked, id)
	number := len(c.asked)
	c.calls[number] = x
	c.at(id, func(n *node.Node) api.Out { return n.Call(number, x) })
}

// take has a mail come.
func (c *crowd) take(which int) {
	c.t.Helper()
	if p, ok := c.net.Any(which); ok {
		c.at(p.To, func(n *node.Node) api.Out { return n.Mail(p.From, p.Body) })
	}
}

// pick is a mail's link, and its place there; false, if there is none.
func (c *crowd) pick(which int) (from, to, place int, ok bool) {
	all := c.net.All()
	if len(all) == 0 {
		return 0, 0, 0, false
	}
	which %= len(all)
	from, to = all[which].From, all[which].To
	for _, p := range all[:which] {
		if p.From == from && p.To == to {
			place++
		}
	}
	return from, to, place, true
}

// lose has a mail get lost.
func (c *crowd) lose(which int) {
	if from, to, place, ok := c.pick(which); ok {
		c.net.Drop(from, to, place)
	}
}

// double has a mail come twice.
func (c *crowd) double(which int) {
	if from, to, place, ok := c.pick(which); ok {
		c.net.Double(from, to, place)
	}
}

// fence has a fence take effect.
func (c *crowd) fence(picks ...int) { c.d.Takes(picks...) }

// power has all fall, and the disk's caches be settled.
func (c *crowd) power(picks ...int) {
	for id := range c.nodes {
		c.crash(id)
	}
	c.d.Power(picks...)
	c.net = bag.New()
}

// round is one in which nothing is lost: all tick, all mails come, all do some steps, and fences take effect.
func (c *crowd) round() {
	c.t.Helper()
	for id := range c.nodes {
		c.at(id, (*node.Node).Tick)
	}
	for took := 0; len(c.net.All()) > 0; took++ {
		if c.take(0); took > 5000 {
			c.t.Fatal("mails are sent for ever")
		}
	}
	for id := range c.nodes {
		for range 20 {
			c.at(id, (*node.Node).Step)
		}
	}
	for len(c.d.Pending()) > 0 {
		c.fence(c.picks...)
	}
}

// most is in how many rounds all that waits must be done, once nothing goes wrong any more.
const most = 50

// rest has all nodes be up, and goes on till all that waits is done; told is by how many rounds.
func (c *crowd) rest() int {
	c.t.Helper()
	for rounds := range most {
		idle := len(c.view().Dead) == 0
		for id := range c.l.Nodes {
			c.up(id)
			idle = idle && c.nodes[id].Waits() == 0 && c.nodes[id].Epoch() == c.view().Epoch
		}
		if idle && view.Open(c.view()) {
			return rounds
		}
		c.round()
	}
	c.t.Fatalf("calls wait for ever: view %v", c.view())
	return 0
}

// home has all be done and kept, and holds what lies on the disk against the tree.
func (c *crowd) home() {
	c.t.Helper()
	c.rest()
	for id := range c.l.Nodes {
		c.call(id, syncs())
	}
	c.rest()
	lines, e := check.Lines(c.l, c.d.Peek)
	if e != api.OK || !slices.Equal(lines, c.tree.All()) {
		c.t.Errorf("on the disk lies %v, %v; want %v", lines, e, c.tree.All())
	}
	if n := check.Taken(c.l, c.d.Peek); n != layout.Room(c.l)-c.tree.Free() {
		c.t.Errorf("%d sectors are taken, want %d", n, layout.Room(c.l)-c.tree.Free())
	}
}

// paths are those of drawn calls.
var paths = []string{"/a", "/b", "/c", "/d", "/d", "/e", "/d/x", "/d/y", "/d/a", "/h", "/h", "/", "bad"}

// asks are the calls that are drawn, some more often than others.
var asks = []int{api.OpCreate, api.OpCreate, api.OpCreate, api.OpMkdir, api.OpMkdir, api.OpLink, api.OpUnlink, api.OpRename, api.OpRead, api.OpWrite, api.OpWrite, api.OpWrite, api.OpTruncate, api.OpTruncate, api.OpReaddir, api.OpStat, api.OpSync, api.OpStatfs}

// some is a drawn call.
func some(d *draws) api.Call {
	p, to := paths[d.below(len(paths))], paths[d.below(len(paths))]
	c := api.Call{Op: asks[d.below(len(asks))], Path: p, To: to}
	switch c.Op {
	case api.OpRead:
		c.At, c.N = d.below(700), d.below(700)
	case api.OpWrite:
		c.At, c.Data = d.below(700), fmt.Sprint("w", d.below(1000))
	case api.OpTruncate:
		c.N = d.below(1500)
	}
	return c
}

// chaos are drawn events, with faults as often as faults says, of a hundred.
func (c *crowd) chaos(d *draws, events, faults int) {
	c.t.Helper()
	for range events {
		id := d.below(c.l.Nodes)
		if d.below(100) < faults {
			switch d.below(12) {
			case 0:
				c.crash(id)
			case 1, 2, 3:
				c.up(id)
			case 4, 5, 6:
				c.lose(d.below(1000))
			case 7, 8, 9:
				c.double(d.below(1000))
			case 10:
				for range 5 {
					c.at(id, (*node.Node).Tick) // the others are silent meanwhile
				}
			case 11:
				if d.below(6) == 0 {
					c.power(d.below(2), d.below(2), d.below(2), d.below(2), d.below(2), d.below(2))
				}
			}
			continue
		}
		switch d.below(12) {
		case 0, 1:
			c.call(id, some(d))
		case 2:
			c.at(id, (*node.Node).Tick)
		case 3, 4, 5:
			c.at(id, (*node.Node).Step)
		case 6, 7, 8, 9, 10:
			c.take(d.below(1000))
		case 11:
			c.fence(d.below(2), d.below(2), d.below(2), d.below(2))
		}
	}
}

// T1 to T5, P21.8: drawn plays, in which notes get lost, come late, or twice, nodes fall and are started, and power goes.
func TestPlays(t *testing.T) {
	for _, of := range []struct{ sectors, nodes, limit, faults, plays int }{{120, 1, 3, 10, 20}, {200, 2, 40, 0, 20}, {200, 2, 4, 10, 30}, {260, 3, 40, 0, 15}, {260, 3, 9, 8, 40}, {150, 3, 9, 8, 20}, {400, 5, 9, 8, 8}} {
		for seed := range of.plays {
			d := draws(seed*977 + of.nodes)
			c := play(t, of.sectors, of.nodes, of.limit)
			for id := range of.nodes {
				c.up(id)
			}
			for range 3 {
				c.chaos(&d, 400, of.faults)
				c.home()
			}
			if t.Failed() {
				t.Fatalf("play %d of %v", seed, of)
			}
		}
	}
}
