package cluster

import (
	"maps"

	"lockgate/api"
	"lockgate/node"
)

// host is where a node is up: it, and the places among the events of what it did since all was kept last, which its fall may undo.
type host struct {
	n     *node.Node
	loose []int
}

// fall is of an incarnation that is not buried yet: the number of its own record that was under way (0: none), and what may be lost.
type fall struct {
	node, inc, record int
	loose             []int
}

// fall has a node be up no more; false, if it isn't up.
func (c *Cluster) fall(id int) bool {
	h := c.host(id)
	if h == nil {
		return false
	}
	if !h.n.Kept() {
		c.fallen = append(c.fallen, fall{node: id, inc: h.n.Inc(), record: h.n.Record(), loose: h.loose})
	}
	c.up[id] = host{}
	maps.DeleteFunc(c.waits, func(_ int, a asked) bool { return a.node == id })
	return true
}

// buried takes that an incarnation is dead no more. By now it is settled whether its last record was whole.
func (c *Cluster) buried(g api.Grave) {
	if h := c.host(g.Node); h != nil && h.n.Inc() == g.Inc {
		c.fall(g.Node)
	}
	var left []fall
falls:
	for _, f := range c.fallen {
		switch {
		case f.node != g.Node || f.inc != g.Inc:
			left = append(left, f)
			continue falls
		case f.record > 0 && f.record <= g.Done:
			continue falls // all that was loose stood in it
		}
		for _, at := range f.loose {
			c.events[at].Lost = true
		}
	}
	c.fallen = left
}

// Crash has a node fall.
func (c *Cluster) Crash(id int) bool { return c.fall(id) }

// Fence has the first pending fence take effect.
func (c *Cluster) Fence(picks ...int) bool { return c.disk().Takes(picks...) != 0 }

// Power has all fall, and the disk's caches with them.
func (c *Cluster) Power(picks ...int) {
	for id := range api.MaxNodes {
		c.fall(id)
	}
	c.disk().Power(picks...)
}
