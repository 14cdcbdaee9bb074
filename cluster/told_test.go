package cluster_test

import (
	"math"
	"slices"
	"testing"

	"lockgate/api"
	"lockgate/cluster"
)

// P22.5: Node tells nil of whom there isn't, and of who isn't up; else the one that is, with what it tells of itself.
func TestNode(t *testing.T) {
	s := on(t, 260, 3, 9)
	for _, id := range []int{math.MinInt, -1, 0, 1, 2, 3, 7, 8, math.MaxInt} {
		if s.c.Node(id) != nil {
			t.Errorf("node %d is up", id)
		}
	}
	s.startAll()
	for _, id := range []int{math.MinInt, -3, -2, -1, 3, 7, 8, math.MaxInt} {
		if s.c.Node(id) != nil {
			t.Errorf("node %d is up", id)
		}
	}
	for id := range 3 {
		if n := s.c.Node(id); n == nil || n != s.c.Node(id) || n.Inc() != 1 || !n.Up() {
			t.Errorf("node %d is %+v", id, seen(n))
		}
	}
	s.crash(1)
	s.start(1)
	if n := s.c.Node(1); n == nil || n.Inc() != 2 {
		t.Errorf("node 1 is %+v", seen(n))
	}
}

// P22.5: Waits and Pending count what waits and what is pending, at each step of what happens.
func TestCounts(t *testing.T) {
	s := ends(t, 260, 3, 3)
	counts := func(what string, waits, pending int) {
		t.Helper()
		if s.c.Waits() != waits || s.c.Pending() != pending {
			t.Fatalf("%s: %d wait, %d are pending, want %d, %d", what, s.c.Waits(), s.c.Pending(), waits, pending)
		}
	}
	counts("at first", 0, 0)
	s.tick(0)
	counts("Tick", 2, 0)
	s.double(0)
	counts("Double", 3, 0)
	s.take(0)
	counts("Take", 2, 0)
	s.drop(0)
	counts("Drop", 1, 0)
	s.crash(2)
	counts("Crash", 1, 0)
	s.take(0)
	counts("Take of what is to one that fell", 0, 0)
	s.cut = func(node int) bool { return node == 2 }
	for range 3 {
		s.ticks()
	}
	s.tick(0)
	counts("the chief's Tick", 1, 1)
	s.tick(0)
	counts("once more", 2, 1)
	s.fence()
	counts("Fence", 2, 0)
	s.power()
	counts("Power", 2, 0)
}

// R3: what is told is its owner's: whatever is done to it has no effect, and it doesn't change later.
func TestMemory(t *testing.T) {
	s := full(t, 200, 1, 9)
	s.done(0, create("/a"))
	s.done(0, create("/b"))
	s.done(0, readdir("/"))
	answers, events, other := s.c.Answers(), s.c.Events(), s.c.Answers()
	s.done(0, stat("/a"))
	s.crash(0)
	s.start(0)
	s.rest()
	s.lists("lost", s.lostOnes(), 1, 2, 3, 4)
	if len(answers) != 3 || len(events) != 3 || events[0].Lost || events[2].Lost {
		t.Fatalf("what was told changes: %v, %v", answers, events)
	}
	answers[2].Reply.Names[0] = "other"
	answers[0] = api.Answer{ID: 9}
	events[1] = api.Event{ID: 9}
	_ = append(answers[:1], api.Answer{ID: 8}, api.Answer{ID: 8})
	_ = append(events[:1], api.Event{ID: 8}, api.Event{ID: 8})
	if !slices.Equal(other[2].Reply.Names, []string{"a", "b"}) {
		t.Errorf("two lists share names: %v", other)
	}
	s.same("behind changes of what was told")
	l := s.c.Events()
	_ = append(l, api.Event{ID: 7})
	s.done(0, stat("/"))
	s.same("behind one more")
}

// R4: the same calls have the same answers: two clusters to which the same is done are the same at each step.
func TestSame(t *testing.T) {
	a, b := plays{260, 3, 9, 10, 0}.play(t, 5), plays{260, 3, 9, 10, 0}.play(t, 5)
	if !slices.Equal(a.c.Events(), b.c.Events()) || !slices.Equal(a.disk(), b.disk()) || len(a.c.Events()) == 0 {
		t.Error("they are not the same")
	}
}

// quietly tells whether all calls of a cluster, at all kinds of numbers, tell what one without nodes, disk and messages tells.
func quietly(c *cluster.Cluster) bool {
	numbers := []int{math.MinInt, -1, 0, 1, 2, 7, 8, math.MaxInt}
	for _, n := range numbers {
		if c.Start(n) != api.ErrArg || c.Call(n, create("/a")) != 0 || c.Tick(n) || c.Step(n) || c.Crash(n) || c.Take(n) || c.Drop(n) || c.Double(n) || c.Node(n) != nil || c.Peek(n) != "" {
			return false
		}
	}
	c.Power()
	c.Power(numbers...)
	return !c.Fence() && !c.Fence(numbers...) && c.Waits() == 0 && c.Pending() == 0 && len(c.Answers()) == 0 && len(c.Events()) == 0 && c.Layout() == api.Layout{}
}

// R1: a nil cluster. A zero one has no nodes and no sectors.
func TestNil(t *testing.T) {
	var c *cluster.Cluster
	if !quietly(c) || c.Answers() != nil || c.Events() != nil {
		t.Error("a nil cluster tells something")
	}
	if !quietly(new(cluster.Cluster)) {
		t.Error("a zero cluster tells something")
	}
}

// P1, R5: no argument is too long, and none makes a call panic: picks beyond all numbers, calls of all kinds with texts of any length.
func TestLong(t *testing.T) {
	s := full(t, 260, 3, 9)
	s.rest()
	long := string(make([]byte, 1<<17))
	for op := -2; op <= 14; op++ {
		for _, x := range []api.Call{{Op: op}, {Op: op, Path: long, To: long, Data: long}, {Op: op, Path: "/a", To: "/b", At: math.MaxInt, N: math.MaxInt, Data: long}, {Op: op, Path: "/a", At: math.MinInt, N: math.MinInt}} {
			s.call(op%3, x)
		}
		s.mails()
	}
	s.crash(0)
	s.start(0)
	picks := make([]int, 1<<17)
	for i := range picks {
		picks[i] = math.MaxInt - i
	}
	s.tick(0)
	s.fence(picks...)
	s.power(picks...)
	s.home()
}
