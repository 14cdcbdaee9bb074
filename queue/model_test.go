package queue_test

import (
	"slices"
	"strconv"
	"testing"

	"lockgate/api"
	"lockgate/queue"
)

// draws are numbers that look like chance, the same at each run.
type draws uint64

func (d *draws) below(n int) int {
	*d = *d*6364136223846793005 + 1442695040888963407
	return int(uint64(*d) >> 33 % uint64(n))
}

// model is a queue as the chapter words it, kept in another way: what each node has, what each one waits for, and who waits, in order.
type model struct {
	has, wish [8]int
	row       []int
}

// modelOf is that of a queue that may be.
func modelOf(q api.Queue) *model {
	m := &model{}
	for _, c := range q.Has {
		m.has[c.Node] = c.Mode
	}
	for _, c := range q.Waits {
		m.wish[c.Node] = c.Mode
		m.row = append(m.row, c.Node)
	}
	return m
}

// queue is the queue that the model is of.
func (m *model) queue() api.Queue {
	var q api.Queue
	for node, has := range m.has {
		if has > 0 {
			q.Has = append(q.Has, api.Claim{Node: node, Mode: has})
		}
	}
	for _, node := range m.row {
		q.Waits = append(q.Waits, api.Claim{Node: node, Mode: m.wish[node]})
	}
	return q
}

// next tells whether the first one that waits is to be served.
func (m *model) next() bool {
	if len(m.row) == 0 {
		return false
	}
	for node, has := range m.has {
		if node != m.row[0] && !fit(has, m.wish[m.row[0]]) {
			return false
		}
	}
	return true
}

// serve serves the queue.
func (m *model) serve() []api.Claim {
	var told []api.Claim
	for m.next() {
		node := m.row[0]
		m.has[node], m.wish[node] = m.wish[node], 0
		m.row = m.row[1:]
		told = append(told, api.Claim{Node: node, Mode: m.has[node]})
	}
	return told
}

// forget has a node wait no more.
func (m *model) forget(node int) {
	m.wish[node] = 0
	m.row = slices.DeleteFunc(m.row, func(other int) bool { return other == node })
}

// The changes.
const (
	want = iota
	drop
	leave
)

// change is a call that changes a queue.
type change struct{ what, node, m int }

// String tells a change.
func (c change) String() string {
	args := "(" + strconv.Itoa(c.node) + ", " + strconv.Itoa(c.m) + ")"
	return []string{"Want", "Drop", "Leave"}[c.what] + args
}

// do has the model do a change, and tells what it says of it.
func (m *model) do(c change) []api.Claim {
	if c.node < 0 || c.node > 7 {
		return nil
	}
	switch c.what {
	case want:
		if c.m != 1 && c.m != 2 {
			return nil
		}
		if m.has[c.node] >= c.m {
			return []api.Claim{{Node: c.node, Mode: m.has[c.node]}}
		}
		if len(m.row) == 0 || m.row[0] != c.node {
			m.forget(c.node)
			m.row = append(m.row, c.node)
		}
		m.wish[c.node] = c.m
	case drop:
		if c.m >= 0 && c.m < m.has[c.node] {
			m.has[c.node] = c.m
		}
	case leave:
		m.has[c.node] = 0
		m.forget(c.node)
	}
	return m.serve()
}

// ask has the package do a change.
func ask(q api.Queue, c change) (api.Queue, []api.Claim) {
	switch c.what {
	case want:
		return queue.Want(q, c.node, c.m)
	case drop:
		return queue.Drop(q, c.node, c.m)
	}
	return queue.Leave(q, c.node)
}

// same fails the test, if a change has told another queue, or other claims.
func same(t *testing.T, what string, q api.Queue, told []api.Claim, wantQueue, wantTold string) {
	t.Helper()
	if text(q) != wantQueue || claimsText(told) != wantTold {
		t.Fatalf("%s tells %s and %q, not %s and %q", what, text(q), claimsText(told), wantQueue, wantTold)
	}
}

// asModel fails the test, if a change of a queue that may be tells anything else than the model, or if the queue is another one then.
func asModel(t *testing.T, q api.Queue, c change) (api.Queue, []api.Claim) {
	t.Helper()
	m, was := modelOf(q), clone(q)
	wantTold := m.do(c)
	next, told := ask(q, c)
	if !equal(next, m.queue()) || !slices.Equal(told, wantTold) {
		t.Fatalf("%s of %s tells %s and %q, not %s and %q", c, text(was), text(next), claimsText(told), text(m.queue()), claimsText(wantTold))
	}
	if !equal(q, was) {
		t.Fatalf("%s has made %s of %s", c, text(q), text(was))
	}
	return next, told
}

// changes are all of these nodes with these modes.
func changes(nodes, modes []int) []change {
	var l []change
	for _, node := range nodes {
		l = append(l, change{leave, node, 0})
		for _, m := range modes {
			l = append(l, change{want, node, m}, change{drop, node, m})
		}
	}
	return l
}

// P9.2: all changes of all queues that may be, of three nodes.
func TestAllChanges(t *testing.T) {
	all := lists(allClaims([]int{0, 3, 7}, []int{1, 2}), 3)
	asked := changes([]int{-1, 0, 1, 3, 7, 8}, []int{-1, 0, 1, 2, 3})
	right := 0
	for _, has := range all {
		for _, waits := range all {
			q := api.Queue{Has: has, Waits: waits}
			if len(reasons(q)) > 0 {
				continue
			}
			right++
			for _, c := range asked {
				next, _ := asModel(t, q, c)
				checks(t, next)
			}
		}
	}
	if right < 200 {
		t.Errorf("just %d of the queues may be", right)
	}
}

// drawn is a change of so many nodes; few of them are of nodes or modes that are none.
func drawn(d *draws, nodes int) change {
	c := change{d.below(8), d.below(nodes), 1 + d.below(2)}
	switch {
	case c.what < 5:
		c.what = want
	case c.what < 7:
		c.what, c.m = drop, d.below(2)
	default:
		c.what = leave
	}
	switch d.below(40) {
	case 0:
		c.node = farNodes[d.below(len(farNodes))]
	case 1:
		c.m = noModes[d.below(len(noModes))]
	}
	return c
}

// scripts plays drawn changes from nothing on, and hands each one to see, with the queue as it was and as it is.
func scripts(t *testing.T, see func(was, is api.Queue, c change, told []api.Claim)) {
	t.Helper()
	d := draws(9)
	for script := range 400 {
		q := api.Queue{}
		for range 200 {
			c := drawn(&d, 2+script%7)
			next, told := asModel(t, q, c)
			see(q, next, c, told)
			q = next
		}
	}
}

// P9.2, P9.4: drawn changes from nothing on, as the model tells them; what is had is always safe, and the queue one that may be.
func TestDrawnChanges(t *testing.T) {
	long, many := 0, 0
	scripts(t, func(was, is api.Queue, c change, told []api.Claim) {
		if why := reasons(is); len(why) > 0 || queue.Check(is) != api.OK {
			t.Fatalf("%s of %s tells %s: %v", c, text(was), text(is), why)
		}
		if len(is.Waits) >= 4 {
			long++
		}
		if len(told) >= 2 {
			many++
		}
	})
	if long < 500 || many < 500 {
		t.Errorf("%d times four or more waited, %d times two or more were served: too few to tell much", long, many)
	}
}

// P9.4: once all that are called have dropped to what they were told, in whatever order, the first one that waits is served.
func TestCalledDrop(t *testing.T) {
	served := 0
	scripts(t, func(_, q api.Queue, _ change, _ []api.Claim) {
		if len(q.Waits) == 0 {
			return
		}
		first := q.Waits[0]
		for _, turn := range []func([]api.Claim){func([]api.Claim) {}, slices.Reverse[[]api.Claim]} {
			l, now, told := queue.Calls(q), q, []api.Claim(nil)
			turn(l)
			for i, c := range l {
				if len(told) > 0 {
					t.Fatalf("of %s, %s was served ahead of %s's dropping", text(q), claimsText(told), claimsText(l[i:]))
				}
				now, told = queue.Drop(now, c.Node, c.Mode)
			}
			if len(told) == 0 || told[0] != first || queue.Mode(now, first.Node) != first.Mode {
				t.Fatalf("of %s, once %s have dropped, %s is served", text(q), claimsText(l), claimsText(told))
			}
		}
		served++
	})
	if served < 10000 {
		t.Errorf("just %d times somebody waited", served)
	}
}

// place is where a node waits; -1, if it doesn't.
func place(q api.Queue, node int) int {
	return slices.IndexFunc(q.Waits, func(c api.Claim) bool { return c.Node == node })
}

// P9.4: who waits, and goes on to wait for the same, is never overtaken: nobody is served that stood behind it, and nobody stands ahead of it that didn't.
func TestNobodyOvertakes(t *testing.T) {
	scripts(t, func(was, is api.Queue, c change, told []api.Claim) {
		for at, waiting := range was.Waits {
			now := place(is, waiting.Node)
			if waiting.Node == c.node || now < 0 {
				continue
			}
			for _, other := range is.Waits[:now] {
				if before := place(was, other.Node); before < 0 || before > at {
					t.Fatalf("%s of %s: %d stands ahead of %d: %s", c, text(was), other.Node, waiting.Node, text(is))
				}
			}
			for _, other := range told {
				enough := c.what == want && other.Node == c.node && queue.Mode(was, c.node) == other.Mode
				if before := place(was, other.Node); !enough && (before < 0 || before > at) {
					t.Fatalf("%s of %s: %d is served, and %d waits: %s", c, text(was), other.Node, waiting.Node, text(is))
				}
			}
		}
	})
}

// P9.4: as long as all that are called drop, and nobody else comes, all that wait are served, in order.
func TestAllAreServed(t *testing.T) {
	scripts(t, func(_, q api.Queue, _ change, _ []api.Claim) {
		var all []api.Claim
		now := q
		for range 9 {
			for _, c := range queue.Calls(now) {
				var told []api.Claim
				now, told = queue.Drop(now, c.Node, c.Mode)
				all = append(all, told...)
			}
		}
		if len(now.Waits) > 0 || !slices.Equal(all, q.Waits) {
			t.Fatalf("of %s, %s were served, and there is %s", text(q), claimsText(all), text(now))
		}
	})
}

// R4: the same calls have the same answers.
func TestSameAgain(t *testing.T) {
	var first, again []string
	tell := func(l *[]string) func(was, is api.Queue, c change, told []api.Claim) {
		return func(_, is api.Queue, _ change, told []api.Claim) {
			*l = append(*l, text(is)+" "+claimsText(told)+" "+claimsText(queue.Calls(is)))
		}
	}
	scripts(t, tell(&first))
	scripts(t, tell(&again))
	if !slices.Equal(first, again) {
		t.Error("the same changes have told other things the second time")
	}
}
