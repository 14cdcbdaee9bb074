package cluster

import (
	"slices"

	"lockgate/api"
	"lockgate/node"
)

// Node is one that is up, to be looked at; nil, if it isn't.
func (c *Cluster) Node(id int) *node.Node {
	h := c.host(id)
	if h == nil {
		return nil
	}
	return h.n
}

// Waits is how many messages do.
func (c *Cluster) Waits() int {
	sum := 0
	for from := range api.MaxNodes {
		for to := range api.MaxNodes {
			sum += c.bag().Waits(from, to)
		}
	}
	return sum
}

// Pending is how many fences are.
func (c *Cluster) Pending() int { return len(c.disk().Pending()) }

// Answers is what clients were told, in order.
func (c *Cluster) Answers() []api.Answer {
	if c == nil {
		return nil
	}
	l := slices.Clone(c.answers)
	for i, a := range l {
		l[i].Reply.Names = slices.Clone(a.Reply.Names)
	}
	return l
}

// Events is which calls were done, in order.
func (c *Cluster) Events() []api.Event {
	if c == nil {
		return nil
	}
	return slices.Clone(c.events)
}

// Layout is how the disk is parted.
func (c *Cluster) Layout() api.Layout {
	if c == nil {
		return api.Layout{}
	}
	return c.l
}

// Peek is what lies in a sector.
func (c *Cluster) Peek(sector int) string { return c.disk().Peek(sector) }
