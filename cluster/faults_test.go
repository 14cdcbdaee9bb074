package cluster_test

import (
	"fmt"
	"slices"
	"testing"

	"lockgate/api"
	"lockgate/layout"
	"lockgate/view"
)

// P22.3: Crash tells whether it was up; behind it nothing happens there.
func TestCrash(t *testing.T) {
	s := ends(t, 260, 3, 9)
	for _, id := range []int{-1, 3, 8} {
		if s.crash(id) {
			t.Errorf("node %d was up", id)
		}
	}
	for _, id := range []int{1, 0, 2} {
		if !s.crash(id) || s.c.Node(id) != nil {
			t.Errorf("node %d wasn't up", id)
		}
		if s.crash(id) || s.tick(id) || s.step(id) || s.call(id, stat("/")) != 0 {
			t.Errorf("node %d is up still", id)
		}
	}
	if v := s.view(); len(v.Members) != 3 || !view.Open(v) {
		t.Errorf("who falls is no member any more: %v", v)
	}
}

// journal is what lies in a node's journal.
func (s *stage) journal(id int) []string {
	var l []string
	for place := range api.JournalSize {
		l = append(l, s.c.Peek(layout.Journal(s.m.l, id)+place))
	}
	return l
}

// P22.3: what a fallen one has in the disk's cache stays there till a fence settles it, or power, by picks: so many writes of a record's five were done; each lies there just if it is picked.
func TestCrashCache(t *testing.T) {
	for wrote := range 6 {
		for _, power := range []bool{false, true} {
			for kept := range 1 << 5 {
				s := full(t, 200, 1, 9)
				s.done(0, create("/a"))
				was := s.journal(0)
				s.call(0, syncs())
				s.steps(0, wrote)
				s.crash(0)
				s.start(0)
				s.tick(0)
				if !slices.Equal(s.journal(0), was) || s.c.Pending() != 1 {
					t.Fatalf("behind %d writes something lies there", wrote)
				}
				if power {
					s.power(bits(kept)...)
				} else {
					s.fence(bits(kept)...)
				}
				for place, now := range s.journal(0) {
					lies := place >= 1 && place <= wrote && kept>>(place-1)&1 == 1
					if lies != (now != was[place]) {
						t.Errorf("behind %d writes, with picks %b (power %v): place %d lies there: %v", wrote, kept, power, place, !lies)
					}
				}
				if s.c.Pending() != 0 {
					t.Error("a fence is pending still")
				}
			}
		}
	}
}

// P22.3: Fence tells false, if none is pending, and nothing happens; else one takes effect at a time, in the order in which they were asked for.
func TestFence(t *testing.T) {
	s := ends(t, 400, 5, 3)
	for _, picks := range [][]int{nil, {}, {0}, {1}, {1, 1, 1}} {
		if s.fence(picks...) {
			t.Error("one was pending")
		}
	}
	for _, id := range []int{4, 3} {
		s.crash(id)
	}
	s.cut = func(node int) bool { return node > 2 }
	for range 4 {
		s.ticks()
	}
	if s.c.Pending() != 2 {
		t.Fatalf("%d fences are pending", s.c.Pending())
	}
	for left := 1; left >= 0; left-- {
		if !s.fence(0, 1) || s.c.Pending() != left {
			t.Errorf("%d fences are pending, want %d", s.c.Pending(), left)
		}
	}
	if s.fence() || s.fence(1) {
		t.Error("a third one was pending")
	}
}

// P22.3: Power has all fall, forgets the fences, and leaves messages where they are; what is handed in stays as it is, and has no effect later.
func TestPower(t *testing.T) {
	s := ends(t, 260, 3, 3)
	s.call(1, create("/a"))
	s.crash(2)
	s.cut = func(node int) bool { return node == 2 }
	for range 4 {
		s.ticks()
	}
	s.tick(0)
	waits := s.c.Waits()
	if s.c.Pending() != 1 || waits == 0 {
		t.Fatalf("%d fences are pending, %d messages wait", s.c.Pending(), waits)
	}
	picks := []int{1, 0, 2, -1}
	s.power(picks...)
	for id := range 3 {
		if s.c.Node(id) != nil || s.tick(id) || s.crash(id) {
			t.Errorf("%d is up", id)
		}
	}
	if s.c.Pending() != 0 || s.c.Waits() != waits || !slices.Equal(picks, []int{1, 0, 2, -1}) {
		t.Errorf("%d fences are pending, %d messages wait, picks are %v", s.c.Pending(), s.c.Waits(), picks)
	}
	s.power() // with nobody up
	s.cut = func(int) bool { return false }
	s.home()
}

// P22.3: what waits at one that falls is never answered: neither by its next incarnation, nor by another one.
func TestNeverAnswered(t *testing.T) {
	for what, fall := range map[string]func(s *stage){
		"Crash": func(s *stage) { s.crash(0) },
		"Power": func(s *stage) { s.power(1, 1, 1, 1, 1, 1) },
	} {
		s := ends(t, 260, 3, 9)
		s.call(0, create("/a"))
		s.mails()
		s.call(0, syncs())
		s.call(0, stat("/a"))
		s.step(0)
		fall(s)
		s.start(0)
		s.call(0, stat("/"))
		s.home()
		for number, want := range []bool{1: true, 2: false, 3: false, 4: true} {
			if _, ok := s.reply(number); number > 0 && ok != want {
				t.Errorf("behind %s call %d is answered: %v", what, number, ok)
			}
		}
	}
}

// orders are all in which three nodes may be started.
var orders = [][]int{{0, 1, 2}, {0, 2, 1}, {1, 0, 2}, {1, 2, 0}, {2, 0, 1}, {2, 1, 0}}

// worked is a stage of three, on which nodes have done and kept something, and two of them have more pending: calls 4 to 6 of node 0 in zones 1 and 2, of node 2 in zone 3.
func worked(t *testing.T) *stage {
	t.Helper()
	s := ends(t, 260, 3, 6)
	s.call(0, create("/a"))
	s.call(1, mkdir("/d"))
	s.call(2, create("/c"))
	s.home()
	number := s.call(0, write("/a", 0, "first"))
	s.call(2, write("/c", 500, "another one, over two sectors"))
	s.call(0, create("/b"))
	s.mails()
	s.lists("done", s.doneOnes()[len(s.doneOnes())-3:], number, number+1, number+2)
	return s
}

// P22.6, T3: power goes at any step of two records that come home side by side, whatever is kept of the caches, whoever is started behind it in whatever order: the tree on the disk is right, and that of all calls that are not lost; those are lost whose record was not whole.
func TestPowerAtAnyStep(t *testing.T) {
	t.Parallel()
	d := draws(3)
	for zeroth := 0; zeroth < 16; zeroth += 1 + d.below(2) {
		for second := 0; second < 16; second += 1 + d.below(4) {
			for k, order := range orders {
				s := worked(t)
				s.call(0, syncs())
				s.call(2, syncs())
				for step := range 16 {
					if step < zeroth {
						s.step(0)
					}
					if step < second {
						s.step(2)
					}
				}
				picks := make([]int, 16)
				for i := range picks {
					picks[i] = []int{0, 1, d.below(2)}[k%3]
				}
				s.power(picks...)
				for _, id := range order {
					s.start(id)
					if d.below(3) == 0 {
						s.ticks()
					}
				}
				if s.home(); s.t.Failed() {
					t.Fatalf("behind %d and %d steps, picks %v, started as %v", zeroth, second, picks, order)
				}
			}
		}
	}
}

// P22.6, T3: power goes again and again, also while dead ones are fenced and replayed.
func TestPowerWhileReplaying(t *testing.T) {
	t.Parallel()
	for steps := 0; steps < 40; steps += 3 {
		for k := range 4 {
			s := worked(t)
			s.call(0, syncs())
			s.call(2, syncs())
			s.steps(0, 9)
			s.steps(2, 5+k)
			s.power(bits(31 * (k % 2))...)
			d := draws(steps + k)
			for range 3 {
				for _, id := range orders[d.below(6)] {
					s.start(id)
				}
				for range steps {
					id := d.below(3)
					s.tick(id)
					s.steps(id, 1+d.below(3))
					s.take(d.below(99))
					s.fence(drawnPicks(&d)...)
				}
				s.power(drawnPicks(&d)...)
			}
			s.startAll()
			s.home()
		}
	}
}

// P22.6, T4: behind its fence no command of a node that is put out changes what lies on the disk, however late it comes.
func TestFencedChangesNothing(t *testing.T) {
	for what, event := range map[string]func(s *stage) bool{
		"Tick": func(s *stage) bool { return s.tick(0) },
		"Step": func(s *stage) bool { return s.step(0) },
		"Call": func(s *stage) bool { return s.call(0, create("/z")) > 0 },
	} {
		s := worked(t)
		s.call(0, syncs())
		s.steps(0, 4)
		s.cut = func(node int) bool { return node == 0 }
		for rounds := 0; s.c.Pending() == 0; rounds++ {
			if rounds == most {
				t.Fatalf("nobody is fenced: %v", s.view())
			}
			s.ticks()
		}
		s.fence(1, 0, 1, 0)
		was := s.disk()
		if s.c.Node(0) == nil || !event(s) || s.c.Node(0) != nil || !slices.Equal(was, s.disk()) {
			t.Errorf("%s of a fenced one has an effect", what)
		}
		s.cut = func(int) bool { return false }
		s.home()
	}
}

// apart is a round in which nodes below the first number have nothing to do with the others, and all are asked for a call. Those of the greater part tick first: whoever misses others first puts out whom it can, and that part is to stay whole.
func (s *stage) apart(first int) {
	s.t.Helper()
	for k := range s.m.l.Nodes {
		id := k
		if 2*first <= s.m.l.Nodes {
			id = s.m.l.Nodes - 1 - k
		}
		s.call(id, create(fmt.Sprint("/n", len(s.asked))))
		s.tick(id)
	}
	for s.c.Waits() > 0 {
		if from, to, _, _ := s.m.link(0); (from < first) != (to < first) {
			s.drop(0)
		} else {
			s.take(0)
		}
	}
	for id := range s.m.l.Nodes {
		s.steps(id, 20)
	}
	for s.c.Pending() > 0 {
		s.fence(1, 0, 1)
	}
}

// P22.6, T4: of nodes that don't hear of each other those who are more than half of all go on, the others do no call, though they are up, and are started again; once they hear of each other again, all do.
func TestParted(t *testing.T) {
	t.Parallel()
	for _, of := range [][2]int{{3, 1}, {3, 2}, {5, 1}, {5, 2}, {5, 3}, {5, 4}} {
		nodes, first := of[0], of[1]
		s := ends(t, 60*nodes+120, nodes, 4)
		for range 12 {
			s.apart(first)
		}
		from := len(s.c.Events())
		for range 4 {
			s.apart(first)
		}
		for _, x := range s.c.Events()[from:] {
			if (x.Node < first) != (2*first > nodes) {
				t.Errorf("of %d, parted at %d, node %d does call %d", nodes, first, x.Node, x.ID)
			}
		}
		if len(s.c.Events()) == from {
			t.Errorf("of %d, parted at %d, nobody does a call", nodes, first)
		}
		s.home()
		from = len(s.c.Events())
		for id := range nodes {
			s.call(id, stat("/"))
		}
		s.rest()
		if n := len(s.c.Events()) - from; n != nodes {
			t.Errorf("of %d, once parted at %d, %d do calls again", nodes, first, n)
		}
	}
}

// P22.6, T4: nodes that are just half of all, or fewer, do no call, whatever they are asked for, and however long they tick.
func TestTooFew(t *testing.T) {
	for _, of := range [][]int{{2, 0}, {2, 1}, {3, 2}, {4, 0, 3}, {5, 1, 4}, {8, 0, 2, 5, 6}} {
		s := on(t, 60*of[0]+120, of[0], 4)
		for _, id := range of[1:] {
			s.start(id)
		}
		for range 20 {
			for _, id := range of[1:] {
				s.call(id, stat("/"))
				s.call(id, syncs())
			}
			s.round()
		}
		if len(s.c.Events()) > 0 || len(s.c.Answers()) > 0 {
			t.Errorf("of %v calls are done: %v", of, s.c.Events())
		}
	}
}
