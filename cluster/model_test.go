package cluster_test

import (
	"lockgate/api"
	"lockgate/bag"
	"lockgate/disk"
	"lockgate/node"
	"lockgate/ops"
	"lockgate/view"
)

// who is an incarnation of a node.
type who struct{ node, inc int }

// deed is a call that was done, by whom, and what was told. Kept are those that no fall undoes any more.
type deed struct {
	id         int
	by         who
	call       api.Call
	reply      api.Reply
	kept, lost bool
}

// deaths are how many were buried; of these, how many were up still, and how many had a record under way that was whole; and how many calls are lost.
type deaths struct{ graves, late, whole, lost int }

// model does what the chapter says in another way than the package does: it keeps all that was ever done, and asks all of it anew.
type model struct {
	l       api.Layout
	limit   int
	d       *disk.Disk
	net     *bag.Net
	nodes   map[int]*node.Node
	starts  int
	calls   []api.Call // by their numbers, from 1 on
	at      []int      // the nodes where they were asked
	answers []api.Answer
	deeds   []*deed
	records map[who]int // of all that fell: the number of their own record that was under way
	seen    deaths
}

// hand is the key by which the model lays its disk.
const hand = 1 << 50

// modelOf is one of a layout.
func modelOf(l api.Layout, limit int) *model {
	m := &model{l: l, limit: limit, d: disk.New(l.Sectors), net: bag.New(), nodes: map[int]*node.Node{}, records: map[who]int{}}
	row, _ := ops.Format(l)
	m.d.Register(hand)
	for _, c := range row {
		m.d.Swap(hand, c.Sector, m.d.Peek(c.Sector), c.S)
	}
	return m
}

// start has a node join.
func (m *model) start(id int) api.Errno {
	switch {
	case id < 0 || id >= m.l.Nodes:
		return api.ErrArg
	case m.nodes[id] != nil:
		return api.ErrState
	}
	m.starts++
	n, e := node.Start(id, m.limit, 1<<46+7*m.starts, m.l, m.d)
	if e == api.OK {
		m.nodes[id] = n
	}
	return e
}

// fall has a node be up no more.
func (m *model) fall(id int) bool {
	n := m.nodes[id]
	if n == nil {
		return false
	}
	m.records[who{id, n.Inc()}] = n.Record()
	delete(m.nodes, id)
	return true
}

// each is done with all deeds of an incarnation.
func (m *model) each(by who, do func(x *deed)) {
	for _, x := range m.deeds {
		if x.by == by {
			do(x)
		}
	}
}

// keep has all that an incarnation did so far be kept.
func (m *model) keep(by who) { m.each(by, func(x *deed) { x.kept = true }) }

// changing tells whether a call that was told so has changes.
func changing(c api.Call, r api.Reply) bool {
	if r.Err != api.OK {
		return false
	}
	switch c.Op {
	case api.OpCreate, api.OpMkdir, api.OpLink, api.OpUnlink, api.OpRename, api.OpWrite, api.OpTruncate:
		return true
	}
	return false
}

// event has something come to a node.
func (m *model) event(id int, do func(n *node.Node) api.Out) bool {
	n := m.nodes[id]
	if n == nil {
		return false
	}
	by, record, kept := who{id, n.Inc()}, n.Record(), n.Kept()
	out := do(n)
	if record > 0 && n.Record() != record {
		kept = true
	}
	if kept {
		m.keep(by)
	}
	for i, a := range out.Answers {
		x := &deed{id: out.Done[i], by: by, call: m.calls[a.ID-1], reply: a.Reply}
		kept = kept && !changing(x.call, x.reply)
		x.kept = kept
		m.deeds = append(m.deeds, x)
	}
	m.answers = append(m.answers, out.Answers...)
	for _, p := range out.Mails {
		m.net.Send(id, p.To, p.Body)
	}
	if !n.Up() {
		m.fall(id)
	}
	for _, g := range out.Graves {
		m.bury(g)
	}
	return true
}

// bury has what a dead one did and never kept be lost.
func (m *model) bury(g api.Grave) {
	by := who{g.Node, g.Inc}
	if n := m.nodes[g.Node]; n != nil && n.Inc() == g.Inc {
		m.fall(g.Node)
		m.seen.late++
	}
	if r := m.records[by]; r > 0 && r <= g.Done {
		m.keep(by)
		m.seen.whole++
	}
	m.each(by, func(x *deed) {
		if !x.kept && !x.lost {
			x.lost = true
			m.seen.lost++
		}
	})
	m.seen.graves++
}

// call has a client ask a node.
func (m *model) call(id int, x api.Call) int {
	if m.nodes[id] == nil {
		return 0
	}
	m.calls, m.at = append(m.calls, x), append(m.at, id)
	m.event(id, func(n *node.Node) api.Out { return n.Call(len(m.calls), x) })
	return len(m.calls)
}

// link is a message's: from, to, and its place there; false, if no message waits.
func (m *model) link(which int) (from, to, place int, ok bool) {
	all := m.net.All()
	if len(all) == 0 {
		return 0, 0, 0, false
	}
	if which < 0 {
		which = -(which + 1)
	}
	p := all[which%len(all)]
	first := 0
	for all[first].From != p.From || all[first].To != p.To {
		first++
	}
	return p.From, p.To, which%len(all) - first, true
}

// take has a message come.
func (m *model) take(which int) bool {
	from, to, place, ok := m.link(which)
	if ok {
		body, _ := m.net.Take(from, to, place)
		m.event(to, func(n *node.Node) api.Out { return n.Mail(from, body) })
	}
	return ok
}

// drop loses a message.
func (m *model) drop(which int) bool {
	from, to, place, ok := m.link(which)
	return ok && m.net.Drop(from, to, place)
}

// double has a message wait twice.
func (m *model) double(which int) bool {
	from, to, place, ok := m.link(which)
	return ok && m.net.Double(from, to, place)
}

// power has all fall.
func (m *model) power(picks ...int) {
	for id := range m.l.Nodes {
		m.fall(id)
	}
	m.d.Power(picks...)
}

// events is what is known of all calls that were done.
func (m *model) events() []api.Event {
	var l []api.Event
	for _, x := range m.deeds {
		l = append(l, api.Event{ID: x.id, Node: x.by.node, Inc: x.by.inc, Lost: x.lost})
	}
	return l
}

// fenced tells whether a node that is up has a key that commands nothing any more.
func (m *model) fenced(id int) bool {
	n := m.nodes[id]
	return n != nil && !m.d.Registered(view.Key(id, n.Inc()))
}
