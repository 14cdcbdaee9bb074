package cluster_test

import (
	"fmt"
	"slices"
	"testing"

	"lockgate/api"
	"lockgate/check"
	"lockgate/cluster"
	"lockgate/crc"
	"lockgate/layout"
	"lockgate/view"
)

// The chapter's examples.
func TestExamples(t *testing.T) {
	c, e := cluster.New(200, 1, 9)
	if e != api.OK {
		t.Fatalf("New: told %v", e)
	}
	if e := c.Start(0); e != api.OK {
		t.Errorf("Start: told %v", e)
	}
	if !c.Tick(0) {
		t.Error("Tick: told false")
	}
	if n := c.Call(0, create("/a")); n != 1 {
		t.Errorf("Call: told %d", n)
	}
	if l := c.Answers(); len(l) != 1 || l[0].ID != 1 || !equal(l[0].Reply, api.Reply{}) {
		t.Errorf("Answers: told %v", l)
	}
	if l := c.Events(); !slices.Equal(l, []api.Event{{ID: 1, Node: 0, Inc: 1}}) {
		t.Errorf("Events: told %v", l)
	}
	if !c.Crash(0) {
		t.Error("Crash: told false")
	}
	if n := c.Call(0, create("/b")); n != 0 {
		t.Errorf("Call behind it: told %d", n)
	}
}

// opening is the sector behind the head of a node's journal, into which its first step writes.
func (s *stage) opening(id int) int { return layout.Journal(s.m.l, id) + 1 }

// The first example of the whole.
func TestExampleSum(t *testing.T) {
	if sum := crc.Of("123456789"); sum != 0xfc891918 {
		t.Errorf("told %x", sum)
	}
}

// The second example of the whole: a write that was not flushed, and a fence: it lies there only if the script picks it.
func TestExampleFence(t *testing.T) {
	for _, picks := range [][]int{nil, {0}, {1}, {2}, {3}, {-1}, {-2}, {1, 0}, {0, 1}} {
		s := full(t, 200, 1, 9)
		s.done(0, create("/a"))
		s.call(0, syncs())
		s.step(0)
		s.crash(0)
		was := s.c.Peek(s.opening(0))
		s.start(0)
		s.tick(0)
		if s.c.Pending() != 1 || s.c.Peek(s.opening(0)) != was {
			t.Fatalf("%d fences are pending", s.c.Pending())
		}
		s.fence(picks...)
		if lies, want := s.c.Peek(s.opening(0)) != was, len(picks) > 0 && picks[0]%2 != 0; lies != want {
			t.Errorf("with picks %v it lies there: %v, want %v", picks, lies, want)
		}
	}
}

// The third example of the whole: three nodes, one started: no call is done; with two they are.
func TestExampleEnough(t *testing.T) {
	s := on(t, 260, 3, 9)
	s.start(1)
	number := s.call(1, create("/a"))
	for range 30 {
		s.round()
	}
	if _, ok := s.reply(number); ok || len(s.c.Events()) > 0 {
		t.Fatalf("one of three has done %v", s.c.Events())
	}
	s.start(2)
	for range 3 {
		s.round()
	}
	if r, ok := s.reply(number); !ok || r.Err != api.OK {
		t.Errorf("two of three have told %v, %v", r, ok)
	}
}

// ends is a stage of so many nodes, all up, in which all have entered the view.
func ends(t *testing.T, sectors, nodes, limit int) *stage {
	t.Helper()
	s := full(t, sectors, nodes, limit)
	s.rest()
	return s
}

// modes are those in which nodes have a zone.
func (s *stage) modes(zone int) []int {
	var l []int
	for id := range s.m.l.Nodes {
		l = append(l, s.c.Node(id).Mode(zone))
	}
	return l
}

// The fourth example of the whole: two nodes share a zone to read; one wants it alone: the other one is called, and gives it up.
func TestExampleShared(t *testing.T) {
	s := ends(t, 200, 2, 9)
	for id := range 2 {
		s.call(id, readdir("/"))
		s.mails()
	}
	for zone := range api.Zones {
		s.lists(fmt.Sprint("zone ", zone), s.modes(zone), api.Share, api.Share)
	}
	number := s.call(0, create("/b")) // in zone 2, of which node 0 is the master
	s.lists("wanted", s.modes(2), api.Share, api.Share)
	if _, ok := s.reply(number); ok || s.c.Waits() != 1 {
		t.Fatalf("it is answered %v, %d messages wait", ok, s.c.Waits())
	}
	s.take(0)
	s.lists("called", s.modes(2), api.Share, api.None)
	if s.c.Waits() != 1 {
		t.Fatalf("%d messages wait", s.c.Waits())
	}
	s.take(0)
	s.lists("given", s.modes(2), api.Alone, api.None)
	if r, ok := s.reply(number); !ok || r.Err != api.OK {
		t.Errorf("told %v, %v", r, ok)
	}
}

// The fifth example of the whole: a file made at one node is there at the other one: what was pending came home ahead.
func TestExampleHome(t *testing.T) {
	s := ends(t, 200, 2, 9)
	s.call(0, create("/a"))
	s.mails()
	number := s.call(1, stat("/a"))
	s.mails()
	if lines, e := check.Lines(s.c.Layout(), s.c.Peek); e != api.OK || len(lines) > 0 || s.c.Node(0).Kept() || !s.c.Node(0).Busy() {
		t.Fatalf("there lies %v, %v ahead of its steps", lines, e)
	}
	s.steps(0, 40)
	if _, ok := s.reply(number); ok {
		t.Fatal("answered ahead of its master's note")
	}
	lines, e := check.Lines(s.c.Layout(), s.c.Peek)
	if e != api.OK || len(lines) != 1 || lines[0].Path != "/a" || !s.c.Node(0).Kept() {
		t.Fatalf("there lies %v, %v behind them", lines, e)
	}
	s.mails()
	if r, ok := s.reply(number); !ok || !equal(r, api.Reply{Kind: api.File, Links: 1}) {
		t.Errorf("told %v, %v", r, ok)
	}
}

// struck is a stage of three on which node 0 has fallen behind so many steps of the record of call 2; call 1 was kept ahead.
func struck(t *testing.T, steps int) *stage {
	t.Helper()
	s := ends(t, 260, 3, 9)
	s.call(0, create("/a"))
	s.mails()
	s.call(0, syncs())
	s.steps(0, 40)
	if number := s.call(0, write("/a", 0, "bytes")); number != 3 {
		t.Fatalf("the call's number is %d", number)
	}
	s.call(0, stat("/a"))
	s.call(0, syncs())
	s.lists("done", s.doneOnes(), 1, 2, 3, 4)
	s.steps(0, steps)
	s.crash(0)
	return s
}

// doneOnes are the numbers of the calls that were done, in order.
func (s *stage) doneOnes() []int {
	var l []int
	for _, x := range s.c.Events() {
		l = append(l, x.ID)
	}
	return l
}

// without goes on with two of three, till the third one is buried.
func (s *stage) without(id int) {
	s.t.Helper()
	s.cut = func(node int) bool { return node == id }
	for rounds := 0; ; rounds++ {
		if v := s.view(); view.Open(v) && view.Inc(v, id) == 0 {
			break
		}
		if rounds == most {
			s.t.Fatalf("%d isn't buried: %v", id, s.view())
		}
		s.round()
	}
	s.cut = func(int) bool { return false }
}

// The sixth example of the whole: a node falls ahead of its record's mark: its calls since it kept all last are lost, whole. The record of a write has a first line and three changes, a flush, the mark, and a flush.
func TestExampleAhead(t *testing.T) {
	for steps := range 6 {
		s := struck(t, steps)
		s.lists("ahead of the burial", s.lostOnes())
		s.without(0)
		s.lists(fmt.Sprint("behind ", steps, " steps"), s.lostOnes(), 3, 4)
		number := s.call(1, read("/a", 0, 9))
		s.mails()
		if r, ok := s.reply(number); !ok || !equal(r, api.Reply{}) {
			t.Errorf("read is told %v, %v", r, ok)
		}
		s.home()
	}
}

// The seventh example of the whole: it falls behind the mark: another one replays it, and none is lost.
func TestExampleBehind(t *testing.T) {
	for steps := 7; steps < 13; steps++ {
		s := struck(t, steps)
		s.without(0)
		s.lists(fmt.Sprint("behind ", steps, " steps"), s.lostOnes())
		number := s.call(2, read("/a", 0, 9))
		s.mails()
		if r, ok := s.reply(number); !ok || !equal(r, api.Reply{Data: "bytes"}) {
			t.Errorf("read is told %v, %v", r, ok)
		}
		s.home()
	}
}

// replayed is a stage of five, on which node 0 has fallen behind its mark, and node 1 is about to replay it.
func replayed(t *testing.T) *stage {
	t.Helper()
	s := ends(t, 400, 5, 4)
	s.call(0, create("/a"))
	s.mails()
	s.call(0, syncs())
	s.steps(0, 9)
	s.crash(0)
	s.cut = func(node int) bool { return node == 0 }
	for rounds := 0; !s.c.Node(1).Busy(); rounds++ {
		if rounds == most {
			t.Fatalf("nobody replays it: %v", s.view())
		}
		s.tick(1)
		for s.c.Pending() > 0 {
			s.fence()
		}
		for id := 2; id < 5; id++ {
			s.tick(id)
		}
		s.mails()
	}
	return s
}

// The eighth example of the whole: the replayer falls, too: the next one replays the same, and it is the same.
func TestExampleReplayer(t *testing.T) {
	want := replayed(t)
	want.steps(1, 40)
	want.lists("with one replayer", want.lostOnes())
	l := want.disk()
	l[1] = "" // the view, which tells of the second one's fall, too
	for steps := range 7 {
		for _, picks := range [][]int{nil, {1, 0, 1, 0, 1, 0, 1}, {0, 1, 0, 1, 0, 1, 0}, {1, 1, 1, 1, 1, 1, 1}} {
			s := replayed(t)
			s.picks = picks
			s.steps(1, steps)
			s.crash(1)
			s.cut = func(node int) bool { return node < 2 }
			for rounds := 0; len(s.view().Dead) > 0 || len(s.view().Members) > 3; rounds++ {
				if rounds == most {
					t.Fatalf("nobody replays it behind %d steps: %v", steps, s.view())
				}
				s.round()
			}
			s.lists("lost", s.lostOnes())
			got := s.disk()
			if got[1] = ""; !slices.Equal(got, l) {
				t.Errorf("behind %d steps, with %v, it is not the same", steps, picks)
			}
		}
	}
}

// The ninth example of the whole: a folder is moved into one of its own: ErrArg.
func TestExampleMoved(t *testing.T) {
	s := full(t, 200, 1, 9)
	s.done(0, mkdir("/d"))
	if r := s.done(0, rename("/d", "/d/e")); !equal(r, api.Reply{Err: api.ErrArg}) {
		t.Errorf("told %v", r)
	}
}

// The tenth example of the whole: power goes while a record comes home: it is there, whole, behind the next start.
func TestExamplePower(t *testing.T) {
	for steps := 8; steps < 15; steps++ {
		for kept := range 1 << 5 {
			s := full(t, 200, 1, 9)
			s.done(0, create("/a"))
			s.call(0, syncs())
			s.steps(0, steps)
			s.power(bits(kept)...)
			s.start(0)
			s.rest()
			s.lists("lost", s.lostOnes())
			if lines, e := check.Lines(s.c.Layout(), s.c.Peek); e != api.OK || len(lines) != 1 || lines[0].Path != "/a" {
				t.Fatalf("behind %d steps, with %b kept, there lies %v, %v", steps, kept, lines, e)
			}
		}
	}
}

// bits are picks: the lowest bit of n is the first one.
func bits(n int) []int {
	l := make([]int, 5)
	for i := range l {
		l[i] = n >> i & 1
	}
	return l
}
