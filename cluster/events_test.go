package cluster_test

import (
	"fmt"
	"math"
	"slices"
	"testing"

	"lockgate/api"
	"lockgate/cluster"
	"lockgate/view"
)

// nobody are numbers of which there is no node up, on a stage of three whose node 1 fell.
var nobody = []int{math.MinInt, -9, -2, -1, 1, 3, 4, 7, 8, 9, 1000, math.MaxInt}

// P22.2: Call, Tick and Step at nodes that are up, that fell, and that there are not; calls are numbered over all nodes, those alone that came to one that is up.
func TestEvents(t *testing.T) {
	s := ends(t, 260, 3, 9)
	s.crash(1)
	number := 0
	for range 5 {
		for _, id := range nobody {
			if s.tick(id) || s.step(id) || s.call(id, stat("/")) != 0 {
				t.Errorf("node %d is up", id)
			}
		}
		for _, id := range []int{2, 0} {
			number++
			if n := s.call(id, stat("/")); n != number {
				t.Errorf("the call's number is %d, want %d", n, number)
			}
			if !s.tick(id) || !s.step(id) {
				t.Errorf("node %d isn't up", id)
			}
		}
	}
	s.start(1)
	if n := s.call(1, stat("bad")); n != number+1 {
		t.Errorf("the call's number is %d, want %d", n, number+1)
	}
}

// P22.2: a call that is passed over has a number, too, and is never answered; those ahead of it and behind are.
func TestPassedOver(t *testing.T) {
	s := on(t, 260, 3, 9)
	s.start(0)
	for k := 1; k <= 40; k++ {
		if n := s.call(0, create(fmt.Sprint("/a", k))); n != k || s.c.Node(0).Waits() != min(k, 32) {
			t.Fatalf("call %d has the number %d, %d wait", k, n, s.c.Node(0).Waits())
		}
	}
	s.start(1)
	s.start(2)
	s.rest()
	if n := s.call(0, stat("/a9")); n != 41 {
		t.Errorf("the last call's number is %d", n)
	}
	s.home()
	for k := 1; k <= 41; k++ {
		if _, ok := s.reply(k); ok != (k <= 32 || k == 41) {
			t.Errorf("call %d is answered: %v", k, ok)
		}
	}
}

// P22.2: what nodes answer is in Answers, in order, and the calls that were done are in Events, with their node and its incarnation.
func TestTold(t *testing.T) {
	s := ends(t, 260, 3, 9)
	s.crash(2)
	s.start(2)
	s.rest()
	s.call(2, mkdir("/d"))
	s.mails()
	s.call(0, stat("/d"))    // 2: waits till the folder is home
	s.call(1, stat("bad"))   // 3: done at once
	s.call(0, create("/d"))  // 4
	s.call(1, readdir("/x")) // 5: in the same zone as /d
	s.rest()
	s.call(2, syncs()) // 6
	s.rest()
	got, events := s.c.Answers(), s.c.Events()
	if len(got) != 6 || got[0].ID != 1 || got[1].ID != 3 || len(events) != 6 {
		t.Fatalf("told %v, %v", got, events)
	}
	at := map[int]api.Event{1: {Node: 2, Inc: 2}, 2: {Inc: 1}, 3: {Node: 1, Inc: 1}, 4: {Inc: 1}, 5: {Node: 1, Inc: 1}, 6: {Node: 2, Inc: 2}}
	want := map[int]api.Reply{1: {}, 2: {Kind: api.Folder, Links: 1}, 3: {Err: api.ErrArg}, 4: {Err: api.ErrExist}, 5: {Err: api.ErrNone}, 6: {}}
	for i, a := range got {
		x := at[a.ID]
		if x.ID = a.ID; events[i] != x || !equal(a.Reply, want[a.ID]) {
			t.Errorf("of call %d there is told %v, %v", a.ID, events[i], a.Reply)
		}
	}
	if i, k := slices.Index(s.doneOnes(), 2), slices.Index(s.doneOnes(), 4); i > k {
		t.Errorf("calls at one node were done as %v", s.doneOnes())
	}
}

// beats is a stage of three, on which all six Beats of one tick each wait.
func beats(t *testing.T) *stage {
	t.Helper()
	s := ends(t, 260, 3, 9)
	for id := range 3 {
		s.tick(id)
	}
	if s.c.Waits() != 6 {
		t.Fatalf("%d messages wait", s.c.Waits())
	}
	return s
}

// whiches are numbers of messages, below 0 and beyond the last one, too.
var whiches = []int{0, 1, 2, 3, 5, 6, 7, 29, 1000, math.MaxInt, math.MaxInt - 1, -1, -2, -6, -7, -30, -1000, math.MinInt, math.MinInt + 1}

// P22.2: with no message Take, Drop and Double tell false, and nothing happens.
func TestNoMessage(t *testing.T) {
	s := ends(t, 260, 3, 9)
	for _, which := range whiches {
		if s.take(which) || s.drop(which) || s.double(which) {
			t.Errorf("there is a message %d", which)
		}
	}
}

// P22.2: with one and with many, any number is one of them.
func TestWhich(t *testing.T) {
	for _, which := range whiches {
		s := beats(t)
		if !s.take(which) || s.c.Waits() != 5 {
			t.Errorf("Take(%d): %d wait", which, s.c.Waits())
		}
		if !s.drop(which) || s.c.Waits() != 4 {
			t.Errorf("Drop(%d): %d wait", which, s.c.Waits())
		}
		if !s.double(which) || s.c.Waits() != 5 {
			t.Errorf("Double(%d): %d wait", which, s.c.Waits())
		}
		for s.c.Waits() > 1 {
			s.drop(which)
		}
		if !s.double(which) || !s.double(which) || s.c.Waits() != 3 {
			t.Errorf("Double(%d) of one: %d wait", which, s.c.Waits())
		}
		if !s.drop(which) || !s.take(which) || !s.take(which) || s.take(which) {
			t.Errorf("of three, %d are left", s.c.Waits())
		}
	}
}

// P22.2: which message it is shows by who hears what: of each Beat that is lost, or taken, alone.
func TestWhichOne(t *testing.T) {
	links := [][2]int{{0, 1}, {0, 2}, {1, 0}, {1, 2}, {2, 0}, {2, 1}} // as layer 5 has them wait
	for which, link := range links {
		for _, lose := range []bool{false, true} {
			s := ends(t, 260, 3, 3)
			s.ticks()
			for range 2 {
				for id := range 3 {
					s.tick(id)
				}
				if lose {
					s.drop(which)
					s.mails()
					continue
				}
				s.take(which)
				for s.c.Waits() > 0 {
					s.drop(0)
				}
			}
			// By the third tick of silence the one who waits for it puts the other one out.
			s.tick(link[1])
			v := s.view()
			if out := view.Inc(v, link[0]) == 0; out != lose {
				t.Errorf("message %d of %v: lost %v, put out %v", which, link, lose, out)
			}
		}
	}
}

// P22.2: one that waits twice comes twice, behind all others of its link; a link that has 200 takes no more.
func TestDouble(t *testing.T) {
	s := ends(t, 200, 2, 40)
	s.call(0, create("/b")) // node 0 is the master of zone 2
	s.call(1, stat("/b"))   // so this is a Want
	if s.c.Waits() != 1 {
		t.Fatalf("%d messages wait", s.c.Waits())
	}
	s.tick(1) // a Beat behind it, and the Want once more
	if s.c.Waits() != 3 {
		t.Fatalf("%d messages wait", s.c.Waits())
	}
	for k := 3; k < 200; k++ {
		if !s.double(1) || s.c.Waits() != k+1 {
			t.Fatalf("with %d: %d wait", k, s.c.Waits())
		}
	}
	for range 3 {
		if s.double(1) || s.double(0) || s.c.Waits() != 200 {
			t.Fatalf("more than 200 wait on a link: %d", s.c.Waits())
		}
	}
	s.tick(0)
	if s.c.Waits() != 201 || !s.double(0) || s.c.Waits() != 202 {
		t.Errorf("another link is full, too: %d wait", s.c.Waits())
	}
	s.home()
}

// P22.2: a message to a node that isn't up is taken, and nothing comes of it, also not once it is up again.
func TestTakeToNobody(t *testing.T) {
	s := beats(t)
	s.crash(1)
	for left := 5; left >= 4; left-- {
		which := 0
		if left == 4 {
			which = 4 // the one of node 2, behind 0 to 2, 1 to 0, 1 to 2, 2 to 0
		}
		if _, to, _, _ := s.m.link(which); to != 1 {
			t.Fatalf("message %d is to %d", which, to)
		}
		was := s.disk()
		if !s.take(which) || s.c.Waits() != left || !slices.Equal(was, s.disk()) {
			t.Errorf("%d messages wait, want %d", s.c.Waits(), left)
		}
	}
	// What is left is to nodes 0 and 2.
	s.crash(0)
	s.crash(2)
	if !s.double(1) || !s.drop(-1) || !s.double(s.c.Waits()-1) || s.c.Waits() != 5 {
		t.Errorf("of messages to those that fell %d wait", s.c.Waits())
	}
	s.home()
}

// P22.2: messages of one that fell come still, and those that were sent to it are heard by its next incarnation.
func TestMailsOutlive(t *testing.T) {
	s := beats(t)
	s.crash(0)
	s.crash(1)
	s.start(1)
	for waits := s.c.Waits(); waits > 0; waits-- {
		if !s.take(0) {
			t.Fatal("none waits")
		}
	}
	s.home()
}

// putOut is a stage of three, on which node 2 is a member no more, and doesn't know it: call 1 waits there, and messages to it are on their way.
func putOut(t *testing.T) *stage {
	t.Helper()
	s := ends(t, 260, 3, 4)
	s.call(2, create("/a")) // node 1 is the master of its zone
	for rounds := 0; len(s.view().Members) == 3; rounds++ {
		if rounds == most {
			t.Fatal("it is never late")
		}
		s.tick(0)
		s.tick(1)
		for which := 0; which < s.c.Waits(); {
			if from, to, _, _ := s.m.link(which); from == 2 || to == 2 {
				which++
				continue
			}
			s.take(which)
		}
	}
	if n := s.c.Node(2); n == nil || !n.Up() || n.Waits() != 1 || view.Inc(s.view(), 2) != 0 {
		t.Fatalf("the view is %v", s.view())
	}
	return s
}

// P22.3: a node that is put out is down behind its next event, whatever that is, and up no more; a call has its number still, and is never answered.
func TestDownBehindEvent(t *testing.T) {
	for what, event := range map[string]func(s *stage) bool{
		"Tick": func(s *stage) bool { return s.tick(2) },
		"Step": func(s *stage) bool { return s.step(2) },
		"Call": func(s *stage) bool { return s.call(2, stat("/")) == 2 },
		"Take": func(s *stage) bool { return s.take(s.m.net.Waits(0, 1)) }, // ahead of it those to node 1 wait
	} {
		s := putOut(t)
		if !event(s) {
			t.Errorf("%s: told something else", what)
		}
		if s.c.Node(2) != nil || s.tick(2) || s.step(2) || s.crash(2) || s.call(2, stat("/")) != 0 {
			t.Errorf("behind %s it is up still", what)
		}
		s.home()
		if _, ok := s.reply(1); ok {
			t.Errorf("behind %s what waited is answered", what)
		}
	}
}

// P22.2, R3: two clusters side by side have nothing to do with each other, nor their calls' numbers.
func TestSideBySide(t *testing.T) {
	script := func(a *cluster.Cluster, beside func(k int)) []string {
		var l []string
		d := draws(5)
		for k := range 600 {
			beside(k)
			id := d.below(3)
			switch d.below(12) {
			case 0:
				l = append(l, fmt.Sprint(a.Start(id)))
			case 1, 2:
				l = append(l, fmt.Sprint(a.Call(id, some(&d))))
			case 3:
				l = append(l, fmt.Sprint(a.Tick(id)))
			case 4, 5, 6:
				l = append(l, fmt.Sprint(a.Step(id)))
			case 7:
				l = append(l, fmt.Sprint(d.below(20) == 0 && a.Crash(id)))
			default:
				l = append(l, fmt.Sprint(a.Take(d.below(9)), a.Fence(1)))
			}
			l = append(l, fmt.Sprint(a.Waits(), a.Pending(), a.Answers(), a.Events(), a.Peek(1)))
		}
		return l
	}
	one, _ := cluster.New(260, 3, 9)
	alone := script(one, func(int) {})
	if len(one.Events()) < 20 {
		t.Fatalf("few calls are done: %v", one.Events())
	}
	two, _ := cluster.New(260, 3, 9)
	other, _ := cluster.New(260, 3, 9)
	d := draws(77)
	beside := script(two, func(k int) {
		id := d.below(3)
		other.Start(id)
		other.Call(id, some(&d))
		other.Tick(id)
		other.Step(id)
		other.Take(0)
		other.Fence(0)
		if k%50 == 0 {
			other.Power(1)
		}
	})
	if !slices.Equal(alone, beside) {
		t.Error("another cluster has an effect")
	}
}
