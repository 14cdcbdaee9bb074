package cluster_test

import (
	"fmt"
	"slices"
	"testing"

	"lockgate/api"
	"lockgate/view"
)

// P22.4: a node alone falls behind any number of steps of its record, and any of its cache is kept: what it did since all was kept last is lost, unless the record was whole: its mark lay there. Nothing is lost ahead of the burial.
func TestLostAtEachStep(t *testing.T) {
	t.Parallel()
	for steps := range 16 {
		for _, power := range []bool{false, true} {
			for kept := range 1 << 5 {
				s := full(t, 200, 1, 9)
				s.done(0, create("/b"))
				s.done(0, stat("/b"))
				s.call(0, syncs()) // 3
				s.steps(0, 40)
				s.done(0, create("/a")) // its record: a first line and four changes, a flush, the mark, a flush; the changes, a flush, the head, a flush
				s.done(0, stat("/a"))
				s.done(0, create("/a"))
				s.call(0, syncs()) // 7
				s.steps(0, steps)
				s.crash(0)
				if power {
					s.power(bits(kept)...)
				}
				s.start(0)
				s.tick(0)
				s.fence(bits(kept)...)
				s.lists("ahead of the burial", s.lostOnes())
				s.rest()
				what := fmt.Sprintf("behind %d steps, with %b kept (power %v)", steps, kept, power)
				if whole := steps > 7 || steps == 7 && kept&1 == 1; whole {
					s.lists(what, s.lostOnes())
				} else {
					s.lists(what, s.lostOnes(), 4, 5, 6)
				}
				s.home()
			}
		}
	}
}

// buried is a stage of one node, which has fallen and is buried.
func (s *stage) buried() {
	s.t.Helper()
	s.crash(0)
	s.start(0)
	s.rest()
	if n := len(s.view().Dead); n > 0 {
		s.t.Fatalf("%d are dead still", n)
	}
}

// P22.4: with no record under way all is lost that was done since all was kept last; what was done behind that, and changed nothing, isn't.
func TestLostWithoutRecord(t *testing.T) {
	s := full(t, 200, 1, 9)
	s.done(0, stat("/"))
	s.done(0, create("/a"))
	s.call(0, syncs())
	s.steps(0, 40)
	s.done(0, stat("/a"))
	s.done(0, create("/a"))
	s.done(0, mkdir("/d")) // 6
	s.done(0, stat("/d"))
	s.done(0, read("/d", 0, 1))
	s.buried()
	s.lists("lost", s.lostOnes(), 6, 7, 8)
	s.done(0, stat("/d"))
	s.buried()
	s.lists("lost", s.lostOnes(), 6, 7, 8)
	s.done(0, mkdir("/e")) // 10
	s.buried()
	s.lists("lost", s.lostOnes(), 6, 7, 8, 10)
	s.home()
}

// P22.4: an incarnation that did nothing, or kept all, has nothing lost.
func TestNothingLost(t *testing.T) {
	s := full(t, 200, 1, 9)
	s.buried()
	s.done(0, create("/a"))
	s.call(0, syncs())
	s.steps(0, 40)
	s.buried()
	s.done(0, stat("/a"))
	s.buried()
	s.lists("lost", s.lostOnes())
	s.home()
}

// idle are calls that change nothing, of each kind.
func idle() []api.Call {
	return []api.Call{stat("/a"), read("/a", 0, 9), readdir("/"), statfs(), create("/a"), stat("bad"), {Op: api.OpUnlink, Path: "/none"}, {}}
}

// changingCalls are calls that change something, of each kind, one behind the other.
func changingCalls() []api.Call {
	return []api.Call{
		create("/b"), mkdir("/d"), {Op: api.OpLink, Path: "/a", To: "/c"}, {Op: api.OpUnlink, Path: "/a"}, rename("/a", "/e"),
		write("/a", 0, "lost"), write("/a", 0, ""), {Op: api.OpTruncate, Path: "/a", N: 9}, {Op: api.OpTruncate, Path: "/a"},
	}
}

// P22.4: calls that are done in the very event in which a record comes home are no part of it: behind that event those are loose that changed something, and what was done behind them.
func TestLostOfOneEvent(t *testing.T) {
	for _, x := range changingCalls() {
		s := full(t, 200, 1, 9)
		s.done(0, create("/a"))
		s.call(0, syncs())
		var kept, lost []int
		for range 2 {
			for _, y := range idle() {
				kept = append(kept, s.call(0, y))
			}
		}
		lost = append(lost, s.call(0, x))
		for _, y := range idle() {
			lost = append(lost, s.call(0, y))
		}
		s.steps(0, 14) // all but the last one
		s.lists("done ahead", s.doneOnes(), 1)
		s.step(0)
		s.lists("done", s.doneOnes(), slices.Concat([]int{1, 2}, kept, lost)...)
		if s.c.Node(0).Kept() || s.c.Node(0).Busy() {
			t.Fatal("it is not as it should be behind the last step")
		}
		s.buried()
		s.lists("lost", s.lostOnes(), lost...)
		s.home()
	}
}

// P22.4: so it is with calls that wait till a node has entered a view, all of which are done in one event.
func TestLostOfFirstEvent(t *testing.T) {
	s := on(t, 260, 3, 9)
	s.start(0)
	for _, x := range []api.Call{stat("/"), syncs(), create("bad"), create("/a"), stat("/a"), statfs()} {
		s.call(0, x)
	}
	s.start(1)
	s.rest()
	s.lists("done", s.doneOnes(), 1, 2, 3, 4, 5, 6)
	s.crash(0)
	s.without(0)
	s.lists("lost", s.lostOnes(), 4, 5, 6)
	s.home()
}

// P22.4: a record that is one of several counts by its number: a journal of which all is done up to the one ahead doesn't have it.
func TestLostRecordByNumber(t *testing.T) {
	for records := 1; records < 5; records++ {
		for _, steps := range []int{3, 7, 8} {
			s := full(t, 200, 1, 9)
			number := 0
			for k := range records {
				s.done(0, create(fmt.Sprint("/a", k)))
				s.call(0, syncs())
				s.steps(0, 40)
			}
			number = s.call(0, create("/b"))
			s.call(0, syncs())
			if n := s.c.Node(0).Record(); n != records+1 {
				t.Fatalf("record %d is under way", n)
			}
			for n := 0; n < steps; n++ {
				s.step(0)
			}
			s.buried()
			if steps < 8 {
				s.lists("lost", s.lostOnes(), number)
			} else {
				s.lists("lost", s.lostOnes())
			}
			s.home()
		}
	}
}

// P22.4: a row of changes that gets too long is kept in between; what is lost is what was done behind the record that was whole.
func TestLostOfLongRow(t *testing.T) {
	t.Parallel()
	for steps := 0; steps < 200; steps += 7 {
		s := full(t, 400, 1, 9)
		for k := range 12 {
			s.call(0, create(fmt.Sprint("/", string(rune('a'+k)))))
			s.call(0, write(fmt.Sprint("/", string(rune('a'+k))), 0, string(make([]byte, 2000))))
		}
		s.steps(0, steps)
		s.buried()
		events := s.c.Events()
		for i, x := range events[1:] {
			if events[i].Lost && !x.Lost && events[i].Inc == x.Inc {
				t.Errorf("behind %d steps: %v", steps, events)
			}
		}
		s.home()
	}
}

// P22.4: a dead one that is buried while it is up still, as nothing came to it meanwhile, is up no more; what it did is lost, unless its record was whole; what waited there is never answered.
func TestBuriedWhileUp(t *testing.T) {
	t.Parallel()
	for steps := range 13 {
		for kept := range 1 << 4 {
			s := ends(t, 260, 3, 4)
			s.call(0, create("/a"))
			s.mails()
			s.call(0, syncs())
			s.steps(0, 40)
			s.call(0, write("/a", 0, "bytes")) // 3: three changes
			s.call(0, syncs())
			s.steps(0, steps)
			if n := s.c.Node(0); n.Waits() != 1 && steps < 13 || !n.Up() {
				t.Fatalf("behind %d steps %d wait", steps, n.Waits())
			}
			s.picks = bits(kept)
			s.cut = func(node int) bool { return node == 0 }
			for rounds := 0; len(s.view().Members) == 3 || len(s.view().Dead) > 0; rounds++ {
				if rounds == most {
					t.Fatalf("nobody buries it: %v", s.view())
				}
				if s.c.Node(0) == nil || !s.c.Node(0).Up() {
					t.Fatalf("it is up no more ahead of its burial: %v", s.view())
				}
				s.lists("lost ahead of that", s.lostOnes())
				s.round()
			}
			if s.c.Node(0) != nil || s.tick(0) || s.step(0) || s.crash(0) || s.call(0, stat("/")) != 0 {
				t.Fatal("it is up still")
			}
			what := fmt.Sprintf("behind %d steps, with %b kept", steps, kept)
			if whole := steps > 6 || steps == 6 && kept&1 == 1; whole {
				s.lists(what, s.lostOnes())
			} else {
				s.lists(what, s.lostOnes(), 3)
			}
			s.cut = func(int) bool { return false }
			s.home()
			if _, ok := s.reply(4); ok {
				t.Error("what waited there is answered")
			}
		}
	}
}

// P22.4: a burial is of one incarnation: what others did, of the same node and of others, is not lost by it, and a node that is up as another incarnation stays up.
func TestBuriedOne(t *testing.T) {
	s := ends(t, 400, 5, 4)
	s.call(3, create("/b")) // 1
	s.call(4, create("/c")) // 2
	s.mails()
	s.lists("done", s.doneOnes(), 1, 2)
	for _, id := range []int{3, 4} {
		s.crash(id)
		s.start(id)
		s.crash(id)
		s.start(id)
	}
	seenLost := [][]int{nil}
	for rounds := 0; len(s.view().Dead) > 0; rounds++ {
		if rounds == most {
			t.Fatalf("some are dead still: %v", s.view())
		}
		s.round()
		for _, id := range []int{3, 4} {
			if n := s.c.Node(id); n == nil || n.Inc() != 3 || view.Inc(s.view(), id) != 3 {
				t.Fatalf("node %d fell by another one's burial", id)
			}
		}
		if l := s.lostOnes(); len(l) > len(seenLost[len(seenLost)-1]) {
			seenLost = append(seenLost, l)
		}
	}
	if len(seenLost) != 3 {
		t.Fatalf("lost one behind the other are %v", seenLost)
	}
	s.lists("first", seenLost[1], 1)
	s.lists("then", seenLost[2], 1, 2)
	s.home()
}

// P22.4: what one did that fell, and what its chief did that fell ahead of burying it, is lost once a third one buries both.
func TestLostOfReplayer(t *testing.T) {
	s := ends(t, 400, 5, 4)
	s.call(0, create("/a")) // 1, in zone 1
	s.mails()
	s.call(1, create("/b")) // 2, in zone 2
	s.mails()
	s.lists("done", s.doneOnes(), 1, 2)
	s.crash(0)
	s.cut = func(node int) bool { return node == 0 }
	for rounds := 0; len(s.view().Members) == 5; rounds++ {
		s.ticks()
	}
	s.crash(1)
	s.cut = func(node int) bool { return node < 2 }
	for rounds := 0; len(s.view().Members) > 3 || len(s.view().Dead) > 0; rounds++ {
		if rounds == most {
			t.Fatalf("nobody buries them: %v", s.view())
		}
		s.round()
	}
	s.lists("lost", s.lostOnes(), 1, 2)
	s.cut = func(int) bool { return false }
	s.home()
}
