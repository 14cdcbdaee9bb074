package pulse_test

import (
	"math"
	"slices"
	"testing"

	"lockgate/pulse"
)

// ticks has so many ticks go by.
func ticks(p *pulse.Pulse, many int) {
	for range many {
		p.Tick()
	}
}

// watching is a pulse that watches those nodes.
func watching(limit int, nodes ...int) *pulse.Pulse {
	p := pulse.New(limit)
	for _, node := range nodes {
		p.Watch(node)
	}
	return p
}

// late fails the test, if others are late.
func late(t *testing.T, what any, p *pulse.Pulse, want ...int) {
	t.Helper()
	if got := p.Late(); !slices.Equal(got, want) {
		t.Fatalf("%v: Late tells %v, not %v", what, got, want)
	}
}

// watched fails the test, if others are watched.
func watched(t *testing.T, what any, p *pulse.Pulse, want ...int) {
	t.Helper()
	if got := p.Watched(); !slices.Equal(got, want) {
		t.Fatalf("%v: Watched tells %v, not %v", what, got, want)
	}
}

// quiet fails the test, if a node's Quiet is another one.
func quiet(t *testing.T, what any, p *pulse.Pulse, node, want int) {
	t.Helper()
	if got := p.Quiet(node); got != want {
		t.Fatalf("%v: Quiet(%d) tells %d, not %d", what, node, got, want)
	}
}

// The chapter's examples.
func TestExamples(t *testing.T) {
	p := pulse.New(2)
	if !p.Watch(1) {
		t.Error("not watched")
	}
	p.Tick()
	quiet(t, "a tick later", p, 1, 1)
	late(t, "a tick later", p)
	p.Tick()
	late(t, "two ticks later", p, 1)
	if !p.Heard(1) {
		t.Error("not heard of")
	}
	late(t, "heard of", p)
}

// P7.1: limits are kept from 1 to 1000; P7.2: a tick less, just the limit, a tick more, and many more.
func TestLimits(t *testing.T) {
	for _, l := range []struct{ limit, kept int }{
		{math.MinInt, 1}, {math.MinInt + 1, 1}, {-1 << 32, 1}, {-1000, 1}, {-2, 1}, {-1, 1}, {0, 1}, {1, 1}, {2, 2}, {3, 3}, {10, 10},
		{255, 255}, {256, 256}, {998, 998}, {999, 999}, {1000, 1000}, {1001, 1000}, {1002, 1000}, {2000, 1000}, {1 << 16, 1000},
		{1 << 32, 1000}, {1<<32 + 1, 1000}, {math.MaxInt - 1, 1000}, {math.MaxInt, 1000},
	} {
		p := watching(l.limit, 5)
		for gone := range l.kept {
			quiet(t, l, p, 5, gone)
			late(t, l, p)
			p.Tick()
		}
		for range 3 {
			quiet(t, l, p, 5, l.kept)
			late(t, l, p, 5)
			p.Tick()
		}
		ticks(p, 70000) // more than 16 bits count
		quiet(t, l, p, 5, l.kept)
		late(t, l, p, 5)
		watched(t, l, p, 5)
		if !p.Heard(5) || p.Quiet(5) != 0 {
			t.Fatalf("%v: who was late is heard of no more", l)
		}
		ticks(p, l.kept-1)
		late(t, l, p)
		p.Tick()
		late(t, l, p, 5)
	}
}

// P7.1: nodes are those from 0 to 7; with others nothing happens.
func TestNodes(t *testing.T) {
	for _, node := range far() {
		is := node >= 0 && node <= 7
		for _, others := range [][]int{nil, {0, 3, 7}, {0, 1, 2, 3, 4, 5, 6, 7}} {
			p, m := watching(3, others...), modelOf(3)
			for _, other := range others {
				m.watch(other)
			}
			for _, what := range []int{tick, hear, tick, watch, tick, watch, hear, tick, forget, tick, forget, hear, tick} {
				do(t, move{what, node}, p, m)
				same(t, node, p, m)
				quiet(t, node, p, node, m.quiet(node))
			}
		}
		p := pulse.New(3)
		if got := p.Watch(node); got != is || p.Heard(node) != is || p.Forget(node) != is {
			t.Errorf("Watch(%d) tells %v", node, got)
		}
	}
}

// P7.1: who is watched already isn't heard of by being watched once more.
func TestWatchTwice(t *testing.T) {
	p := watching(3, 4)
	ticks(p, 2)
	if p.Watch(4) {
		t.Error("watched twice")
	}
	quiet(t, "watched twice", p, 4, 2)
	p.Tick()
	late(t, "watched twice", p, 4)
	if p.Watch(4) {
		t.Error("watched twice, while it is late")
	}
	late(t, "watched twice, while it is late", p, 4)
	watched(t, "watched twice", p, 4)
}

// P7.1: who is forgotten is watched no more, and can't be forgotten twice, nor be heard of.
func TestForget(t *testing.T) {
	p := watching(2, 0, 4, 7)
	ticks(p, 1)
	if !p.Forget(4) || p.Forget(4) || p.Heard(4) || p.Forget(4) {
		t.Error("forgotten twice, or not at all, or heard of")
	}
	quiet(t, "forgotten", p, 4, -1)
	watched(t, "forgotten", p, 0, 7)
	p.Tick()
	quiet(t, "forgotten", p, 4, -1)
	late(t, "forgotten", p, 0, 7)
	if !p.Forget(0) {
		t.Error("who is late can't be forgotten")
	}
	late(t, "who was late is forgotten", p, 7)
	watched(t, "who was late is forgotten", p, 7)
}

// P7.1: who isn't watched isn't heard of, and is watched by that as little.
func TestHeardUnwatched(t *testing.T) {
	p := watching(2, 2)
	for node := range 8 {
		if got := p.Heard(node); got != (node == 2) {
			t.Errorf("Heard(%d) tells %v", node, got)
		}
	}
	watched(t, "heard of", p, 2)
	p.Tick()
	p.Heard(3)
	quiet(t, "another one was heard of", p, 2, 1)
	quiet(t, "heard of", p, 3, -1)
}

// P7.1: who is watched anew was heard of just then, whatever was ahead of that.
func TestWatchAnew(t *testing.T) {
	for gone := range 6 {
		for between := range 6 {
			p := watching(3, 6)
			ticks(p, gone)
			p.Forget(6)
			ticks(p, between)
			if !p.Watch(6) {
				t.Fatal("not watched anew")
			}
			for since := range 3 {
				quiet(t, "watched anew", p, 6, since)
				late(t, "watched anew", p)
				p.Tick()
			}
			late(t, "watched anew, three ticks ago", p, 6)
		}
	}
	p := pulse.New(3)
	ticks(p, 10)
	p.Watch(6)
	quiet(t, "watched behind ten ticks", p, 6, 0)
}

// P7.2: of nobody there is nothing to tell.
func TestNobody(t *testing.T) {
	for _, limit := range []int{-1, 0, 1, 2, 1000} {
		p := pulse.New(limit)
		for range 1100 {
			p.Tick()
		}
		late(t, limit, p)
		watched(t, limit, p)
		for _, node := range far() {
			quiet(t, limit, p, node, -1)
			if p.Heard(node) || p.Forget(node) {
				t.Errorf("%d was watched", node)
			}
		}
	}
}

// P7.2: all eight, watched in whatever order, and one tick apart from each other; what is told rises.
func TestAllEight(t *testing.T) {
	for _, order := range [][]int{{0, 1, 2, 3, 4, 5, 6, 7}, {7, 6, 5, 4, 3, 2, 1, 0}, {3, 7, 0, 5, 1, 6, 2, 4}} {
		p := pulse.New(8)
		for i, node := range order {
			if !p.Watch(node) {
				t.Fatalf("%d is not watched", node)
			}
			watched(t, order, p, slices.Sorted(slices.Values(order[:i+1]))...)
			p.Tick()
		}
		for i := range order {
			for j, node := range order {
				quiet(t, order, p, node, min(8-j+i, 8))
			}
			late(t, order, p, slices.Sorted(slices.Values(order[:i+1]))...)
			p.Tick()
		}
		late(t, order, p, 0, 1, 2, 3, 4, 5, 6, 7)
		p.Heard(order[2])
		late(t, order, p, slices.Sorted(slices.Values(slices.Concat(order[:2], order[3:])))...)
	}
}

// P7.2: just the nodes that are watched, whichever these are, and just those of them that are late.
func TestEachSet(t *testing.T) {
	for set := range 256 {
		p := pulse.New(2)
		var all, quietOnes []int
		for node := range 8 {
			if set>>node&1 == 1 {
				all = append(all, node)
				p.Watch(node)
			}
		}
		p.Tick()
		late(t, set, p)
		for i, node := range all {
			if i%2 == 0 {
				p.Heard(node)
			} else {
				quietOnes = append(quietOnes, node)
			}
		}
		p.Tick()
		watched(t, set, p, all...)
		late(t, set, p, quietOnes...)
	}
}

// everLate tells whether node 1 was ever late in a script in which it is heard of behind the ticks whose bits are 1.
func everLate(limit, bits, many int) bool {
	p, ever := watching(limit, 1), false
	for i := range many {
		p.Tick()
		ever = ever || len(p.Late()) > 0
		if bits>>i&1 == 1 {
			p.Heard(1)
		}
		ever = ever || len(p.Late()) > 0
	}
	return ever
}

// silent tells whether there are limit ticks in a row between the first and the last of which nothing was heard.
func silent(limit, bits, many int) bool {
	for from := 0; from+limit <= many; from++ {
		if bits>>from&(1<<(limit-1)-1) == 0 {
			return true
		}
	}
	return false
}

// P7.3: who is heard of at least once in any limit ticks is never late; who isn't is late at some time.
func TestNeverLate(t *testing.T) {
	const many = 11
	for limit := 1; limit <= 6; limit++ {
		for bits := range 1 << many {
			if got, want := everLate(limit, bits, many), silent(limit, bits, many); got != want {
				t.Fatalf("limit %d, heard of behind ticks %b: late tells %v", limit, bits, got)
			}
		}
	}
	p := watching(1000, 3)
	for range 50 {
		ticks(p, 999)
		late(t, "heard of each 999 ticks", p)
		p.Heard(3)
	}
}

// P7.3: who is not heard of any more is late limit ticks later, not sooner, and stays so, whatever is heard of others.
func TestLateForGood(t *testing.T) {
	for _, limit := range []int{1, 2, 3, 17, 999, 1000} {
		p := watching(limit, 0, 2, 5)
		for range 20 {
			p.Heard(2)
			ticks(p, min(limit-1, 2))
		}
		p.Heard(2)
		for gone := range 2*limit + 50 {
			p.Heard(0)
			p.Heard(5)
			if gone < limit {
				late(t, limit, p)
			} else {
				late(t, limit, p, 2)
			}
			p.Tick()
		}
		p.Watch(1)
		p.Watch(2)
		p.Forget(0)
		p.Heard(5)
		late(t, limit, p, 2)
	}
}

// R3: what is told is its owner's: it doesn't change later, and whatever is done to it has no effect.
func TestToldIsOwned(t *testing.T) {
	p := watching(2, 1, 3, 6)
	ticks(p, 2)
	l := [][]int{p.Late(), p.Watched(), p.Late(), p.Watched()}
	p.Heard(3)
	p.Forget(1)
	p.Watch(0)
	p.Tick()
	p.Late()
	p.Watched()
	for _, told := range l {
		if !slices.Equal(told, []int{1, 3, 6}) {
			t.Errorf("what was told has become %v", told)
		}
	}
	for i, told := range append(l, p.Late(), p.Watched()) {
		for j := range told[:cap(told)] {
			told[:cap(told)][j] = -9
		}
		_ = append(told[:0], 70+i, 80+i)
	}
	late(t, "its owner wrote", p, 6)
	watched(t, "its owner wrote", p, 0, 3, 6)
	for node, want := range []int{1, -1, -1, 1, -1, -1, 2, -1} {
		quiet(t, "its owner wrote", p, node, want)
	}
}

// R3: of lists that were told together, none shares anything with another one.
func TestToldApart(t *testing.T) {
	p := watching(1, 0, 1, 2, 3)
	p.Tick()
	l := [][]int{p.Late(), p.Watched(), p.Late(), p.Watched()}
	for i := range l {
		for j := range l[i] {
			l[i][j] = 10 * i
		}
		_ = append(l[i][:0], 10*i, 10*i, 10*i, 10*i)
	}
	for i := range l {
		if want := []int{10 * i, 10 * i, 10 * i, 10 * i}; !slices.Equal(l[i], want) {
			t.Errorf("list %d has become %v", i, l[i])
		}
	}
}

// R4: to tell changes nothing, however often.
func TestTellingChangesNothing(t *testing.T) {
	p, m := watching(4, 2, 5), modelOf(4)
	m.watch(2)
	m.watch(5)
	for range 6 {
		for range 20 {
			same(t, "told", p, m)
		}
		do(t, move{tick, 0}, p, m)
	}
}

// The package keeps nothing beside its pulses: one has nothing of another one.
func TestApart(t *testing.T) {
	a, b := watching(1, 1), watching(9, 2)
	if a == b || a == pulse.New(1) {
		t.Fatal("New tells the same one twice")
	}
	ticks(a, 3)
	b.Tick()
	b.Heard(1)
	b.Forget(1)
	quiet(t, "a", a, 1, 1)
	quiet(t, "a", a, 2, -1)
	late(t, "a", a, 1)
	quiet(t, "b", b, 2, 1)
	late(t, "b", b)
	watched(t, "b", b, 2)
}

// A nil pulse tells false, -1, nothing.
func TestNil(t *testing.T) {
	var p *pulse.Pulse
	for _, node := range far() {
		if p.Watch(node) || p.Heard(node) || p.Forget(node) {
			t.Errorf("of %d it tells true", node)
		}
		p.Tick()
		quiet(t, "nil", p, node, -1)
		late(t, "nil", p)
		watched(t, "nil", p)
	}
}

// A zero pulse is New(1), with whatever is asked of it first.
func TestZero(t *testing.T) {
	for first := range 4 {
		for _, node := range far() {
			var p pulse.Pulse
			m := modelOf(1)
			do(t, move{first, node}, &p, m)
			same(t, node, &p, m)
		}
	}
	for seed := range 40 {
		var p pulse.Pulse
		m := modelOf(1)
		same(t, seed, &p, m)
		d := draws(seed)
		for range 80 {
			do(t, drawn(&d), &p, m)
			same(t, seed, &p, m)
		}
	}
	p := new(pulse.Pulse)
	p.Watch(7)
	late(t, "just watched", p)
	p.Tick()
	late(t, "a tick later", p, 7)
	quiet(t, "a tick later", p, 7, 1)
	ticks(p, 5)
	quiet(t, "six ticks later", p, 7, 1)
}
