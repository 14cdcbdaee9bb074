package pulse_test

import (
	"math"
	"slices"
	"testing"

	"lockgate/pulse"
)

// draws are numbers that look like chance, the same at each run.
type draws uint64

func (d *draws) below(n int) int {
	*d = *d*6364136223846793005 + 1442695040888963407
	return int(uint64(*d) >> 33 % uint64(n))
}

// far are numbers of nodes: those that there are, those next to them, and some that a part of their bits might have taken for one.
func far() []int {
	return []int{math.MinInt, math.MinInt + 1, math.MinInt + 7, -1 << 32, -256, -9, -8, -7, -2, -1, 0, 1, 2, 3, 4, 5, 6, 7, 8, 9, 15, 16, 64, 256, 257, 1 << 16, 1 << 32, 1<<32 + 3, 1 << 61, math.MaxInt - 7, math.MaxInt}
}

// model is a pulse as the chapter words it, kept in another way: how many ticks there were, and at how many of them each watched node was heard of last.
type model struct {
	limit, now int
	heard      map[int]int
}

// modelOf is New's; limits are told apart one by one, as the chapter bounds them.
func modelOf(limit int) *model {
	m := &model{limit: limit, heard: map[int]int{}}
	if limit < 1 {
		m.limit = 1
	}
	if limit > 1000 {
		m.limit = 1000
	}
	return m
}

func (m *model) watches(node int) bool {
	_, ok := m.heard[node]
	return ok
}

func (m *model) watch(node int) bool {
	if node < 0 || node > 7 || m.watches(node) {
		return false
	}
	m.heard[node] = m.now
	return true
}

func (m *model) hear(node int) bool {
	if !m.watches(node) {
		return false
	}
	m.heard[node] = m.now
	return true
}

func (m *model) forget(node int) bool {
	ok := m.watches(node)
	delete(m.heard, node)
	return ok
}

func (m *model) quiet(node int) int {
	if !m.watches(node) {
		return -1
	}
	if since := m.now - m.heard[node]; since < m.limit {
		return since
	}
	return m.limit
}

// those are the nodes that are watched, and late, if that is asked for.
func (m *model) those(late bool) []int {
	var l []int
	for node := range m.heard {
		if !late || m.now-m.heard[node] >= m.limit {
			l = append(l, node)
		}
	}
	slices.Sort(l)
	return l
}

// same fails the test, if a pulse doesn't tell what the model does.
func same(t *testing.T, what any, p *pulse.Pulse, m *model) {
	t.Helper()
	for node := -1; node <= 8; node++ {
		if got, want := p.Quiet(node), m.quiet(node); got != want {
			t.Fatalf("%v: Quiet(%d) tells %d, not %d", what, node, got, want)
		}
	}
	if got, want := p.Late(), m.those(true); !slices.Equal(got, want) {
		t.Fatalf("%v: Late tells %v, not %v", what, got, want)
	}
	if got, want := p.Watched(), m.those(false); !slices.Equal(got, want) {
		t.Fatalf("%v: Watched tells %v, not %v", what, got, want)
	}
}

// The moves of a script.
const (
	tick = iota
	watch
	hear
	forget
)

// move is one of a script.
type move struct{ what, node int }

// do makes a move in both, and fails the test, if they don't tell the same of it.
func do(t *testing.T, mv move, p *pulse.Pulse, m *model) {
	t.Helper()
	var got, want bool
	switch mv.what {
	case tick:
		p.Tick()
		m.now++
	case watch:
		got, want = p.Watch(mv.node), m.watch(mv.node)
	case hear:
		got, want = p.Heard(mv.node), m.hear(mv.node)
	case forget:
		got, want = p.Forget(mv.node), m.forget(mv.node)
	}
	if got != want {
		t.Fatalf("move %d of node %d tells %v at tick %d", mv.what, mv.node, got, m.now)
	}
}

// P7.1, P7.2: all scripts of up to six moves with two nodes.
func TestAllScripts(t *testing.T) {
	moves := []move{{tick, 0}, {watch, 0}, {hear, 0}, {forget, 0}, {watch, 7}, {hear, 7}, {forget, 7}}
	many := 1
	for length := range 7 {
		for script := range many {
			for limit := 1; limit <= 3; limit++ {
				p, m := pulse.New(limit), modelOf(limit)
				for rest := range length {
					do(t, moves[script/power(len(moves), rest)%len(moves)], p, m)
				}
				same(t, [2]int{length, script}, p, m)
			}
		}
		many *= len(moves)
	}
}

// power is n times itself, so often.
func power(n, often int) int {
	product := 1
	for range often {
		product *= n
	}
	return product
}

// drawn is a move that is drawn; now and then with a node that there isn't.
func drawn(d *draws) move {
	mv := move{d.below(7), d.below(8)}
	if mv.what > forget {
		mv.what = tick
	}
	if d.below(10) == 0 {
		mv.node = far()[d.below(len(far()))]
	}
	return mv
}

// P7.1, P7.2: long scripts with all nodes, and limits of all kinds.
func TestDrawnScripts(t *testing.T) {
	for seed := range 120 {
		d := draws(seed)
		limit := []int{-5, 0, 1, 2, 3, 4, 5, 7, 10, 20, 60, 1000}[seed%12]
		p, m := pulse.New(limit), modelOf(limit)
		for step := range 400 {
			do(t, drawn(&d), p, m)
			same(t, [3]int{seed, limit, step}, p, m)
		}
	}
}
