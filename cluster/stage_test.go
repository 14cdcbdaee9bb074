package cluster_test

import (
	"fmt"
	"slices"
	"testing"

	"lockgate/api"
	"lockgate/check"
	"lockgate/cluster"
	"lockgate/layout"
	"lockgate/mode"
	"lockgate/node"
	"lockgate/pack"
	"lockgate/tree"
	"lockgate/view"
)

// stage is a cluster in play, with the model beside it, and what the theorems say of it held at each step.
type stage struct {
	t      *testing.T
	c      *cluster.Cluster
	m      *model
	tree   *tree.Tree            // of all calls that are not lost
	held   int                   // how many events were held against the tree
	lost   int                   // how many of them are lost
	sync   map[who]int           // how many events there were behind an incarnation's last answered OpSync
	redoes [api.MaxNodes]bool    // whether a node was replaying a dead one
	asked  []who                 // of each call, by numbers, who is to answer it; nobody, if it is passed over
	picks  []int                 // by which fences settle caches in rounds
	first  func(waiting int) int // which message comes first in rounds
	cut    func(node int) bool   // who is not reached in rounds
}

// on is a stage on which nobody is up.
func on(t *testing.T, sectors, nodes, limit int) *stage {
	t.Helper()
	c, e := cluster.New(sectors, nodes, limit)
	l, e2 := layout.New(sectors, nodes)
	if e != api.OK || e2 != api.OK || c == nil {
		t.Fatalf("New(%d, %d): told %v", sectors, nodes, e)
	}
	s := &stage{t: t, c: c, m: modelOf(l, limit), tree: tree.New(layout.Room(l)), sync: map[who]int{}}
	s.first, s.cut = func(int) int { return 0 }, func(int) bool { return false }
	s.same("New")
	return s
}

// full is a stage on which all are up.
func full(t *testing.T, sectors, nodes, limit int) *stage {
	t.Helper()
	s := on(t, sectors, nodes, limit)
	s.startAll()
	return s
}

// state is what can be seen of a node.
type state struct {
	there, up, busy, kept     bool
	inc, epoch, waits, record int
	modes                     [api.Zones]int
}

// seen is the state of a node.
func seen(n *node.Node) state {
	if n == nil {
		return state{}
	}
	s := state{there: true, up: n.Up(), busy: n.Busy(), kept: n.Kept(), inc: n.Inc(), epoch: n.Epoch(), waits: n.Waits(), record: n.Record()}
	for zone := range s.modes {
		s.modes[zone] = n.Mode(zone)
	}
	return s
}

// equal tells whether two replies are the same.
func equal(a, b api.Reply) bool {
	return a.Err == b.Err && a.Data == b.Data && slices.Equal(a.Names, b.Names) && a.Kind == b.Kind && a.Links == b.Links && a.Size == b.Size && a.Free == b.Free
}

// same holds all that the cluster tells against the model.
func (s *stage) same(what string) {
	s.t.Helper()
	if got, want := s.c.Layout(), s.m.l; got != want {
		s.t.Fatalf("%s: Layout %v, want %v", what, got, want)
	}
	if got, want := s.c.Waits(), len(s.m.net.All()); got != want {
		s.t.Fatalf("%s: %d messages wait, want %d", what, got, want)
	}
	if got, want := s.c.Pending(), len(s.m.d.Pending()); got != want {
		s.t.Fatalf("%s: %d fences are pending, want %d", what, got, want)
	}
	for id := -1; id <= api.MaxNodes; id++ {
		if got, want := seen(s.c.Node(id)), seen(s.m.nodes[id]); got != want {
			s.t.Fatalf("%s: node %d is %+v, want %+v", what, id, got, want)
		}
	}
	if got, want := s.c.Answers(), s.m.answers; !slices.EqualFunc(got, want, func(a, b api.Answer) bool { return a.ID == b.ID && equal(a.Reply, b.Reply) }) {
		s.t.Fatalf("%s: answers %v, want %v", what, got, want)
	}
	if got, want := s.c.Events(), s.m.events(); !slices.Equal(got, want) {
		s.t.Fatalf("%s: events %v, want %v", what, got, want)
	}
	for sector := -1; sector <= s.m.l.Sectors; sector++ {
		if s.c.Peek(sector) != s.m.d.Peek(sector) {
			s.t.Fatalf("%s: sector %d is not as it should be", what, sector)
		}
	}
}

// view is the one that lies there.
func (s *stage) view() api.View {
	s.t.Helper()
	text, ok := pack.Open(s.c.Peek(1))
	v, e := view.Read(text)
	if !ok || e != api.OK {
		s.t.Fatal("no view lies there")
	}
	return v
}

// disk is all that lies there.
func (s *stage) disk() []string {
	l := make([]string, s.m.l.Sectors)
	for sector := range l {
		l[sector] = s.c.Peek(sector)
	}
	return l
}

// after holds what a step did against the model, and against the theorems.
func (s *stage) after(what string) {
	s.t.Helper()
	s.same(what)
	s.safe(what)
	s.oneTree(what)
}

// safe is T4: what members have fits, and nobody's journal is replayed whose commands might still count.
func (s *stage) safe(what string) {
	s.t.Helper()
	v := s.view()
	for zone := range api.Zones {
		var l []api.Claim
		for _, x := range v.Members {
			if n := s.c.Node(x.Node); n != nil && n.Inc() == x.Inc {
				l = append(l, api.Claim{Node: x.Node, Mode: n.Mode(zone)})
			}
		}
		if !mode.Safe(l) {
			s.t.Fatalf("%s: zone %d is had as %v", what, zone, l)
		}
	}
	for id := range s.m.l.Nodes {
		n := s.c.Node(id)
		redoes := n != nil && n.Busy() && n.Record() == 0
		if begins := redoes && !s.redoes[id]; begins && s.m.d.Registered(view.Key(v.Dead[0].Node, v.Dead[0].Inc)) {
			s.t.Fatalf("%s: %v is replayed, and not fenced", what, v.Dead[0])
		}
		s.redoes[id] = redoes
	}
}

// oneTree is T1, and of T4 and T2 what can be said of calls: each is answered as the tree would; it is done by one of enough members, all of which are ready, with nobody dead; and what is lost is what an incarnation did last.
func (s *stage) oneTree(what string) {
	s.t.Helper()
	events, answers, v := s.c.Events(), s.c.Answers(), s.view()
	lost := 0
	for _, x := range events[:s.held] {
		if x.Lost {
			lost++
		}
	}
	if lost != s.lost {
		s.lost = lost
		s.anew(what, events[:s.held], answers)
	}
	for i, x := range events[s.held:] {
		if x.Lost || answers[s.held+i].ID != x.ID || s.m.at[x.ID-1] != x.Node {
			s.t.Fatalf("%s: event %v, answer %v", what, x, answers[s.held+i])
		}
		if n := s.c.Node(x.Node); n == nil || !view.Open(v) || view.Inc(v, x.Node) != x.Inc || n.Inc() != x.Inc || n.Epoch() != v.Epoch {
			s.t.Fatalf("%s: %v was done in %v", what, x, v)
		}
		s.told(what, x, answers[s.held+i].Reply)
		if s.m.calls[x.ID-1].Op == api.OpSync {
			s.sync[who{x.Node, x.Inc}] = s.held + i + 1
		}
	}
	s.held = len(events)
}

// told holds what a call was told against the tree.
func (s *stage) told(what string, x api.Event, got api.Reply) {
	s.t.Helper()
	call := s.m.calls[x.ID-1]
	if want := s.tree.Do(call); !equal(got, want) {
		s.t.Fatalf("%s: call %d at %d, %+v: told %+v, want %+v", what, x.ID, x.Node, call, got, want)
	}
}

// anew holds all calls that are not lost against a new tree.
func (s *stage) anew(what string, events []api.Event, answers []api.Answer) {
	s.t.Helper()
	s.tree = tree.New(layout.Room(s.m.l))
	gone := map[who]bool{}
	for i, x := range events {
		by := who{x.Node, x.Inc}
		if gone[by] && !x.Lost {
			s.t.Fatalf("%s: %v is not lost, though one ahead of it is", what, x)
		}
		if gone[by] = x.Lost; x.Lost {
			if i < s.sync[by] {
				s.t.Fatalf("%s: %v is lost, which a sync had covered", what, x)
			}
			continue
		}
		s.told(what, x, answers[i].Reply)
	}
}

// start starts a node.
func (s *stage) start(id int) api.Errno {
	s.t.Helper()
	got, want := s.c.Start(id), s.m.start(id)
	if got != want {
		s.t.Fatalf("Start(%d): told %v, want %v", id, got, want)
	}
	s.after(fmt.Sprintf("Start(%d)", id))
	return got
}

// startAll starts all that aren't up.
func (s *stage) startAll() {
	s.t.Helper()
	for id := range s.m.l.Nodes {
		if s.c.Node(id) == nil {
			s.start(id)
		}
	}
}

// is holds what a call of the cluster told against what it should.
func is[T comparable](s *stage, what string, got, want T) T {
	s.t.Helper()
	if got != want {
		s.t.Fatalf("%s: told %v, want %v", what, got, want)
	}
	s.after(what)
	return got
}

// quiet does something at a node; if its key was fenced, nothing on the disk is to change by it.
func quiet[T comparable](s *stage, what string, id int, do func() T, want func() T) T {
	s.t.Helper()
	var was []string
	fenced := s.m.fenced(id)
	if fenced {
		was = s.disk()
	}
	got := do()
	if fenced && !slices.Equal(was, s.disk()) {
		s.t.Fatalf("%s: a fenced one changed what lies on the disk", what)
	}
	return is(s, what, got, want())
}

// call asks a node for something, and tells the call's number.
func (s *stage) call(id int, x api.Call) int {
	s.t.Helper()
	by := who{}
	if n := s.c.Node(id); n != nil && n.Waits() < api.MaxCalls {
		by = who{id, n.Inc()}
	}
	up := s.c.Node(id) != nil
	got := quiet(s, fmt.Sprintf("Call(%d, %+v)", id, x), id, func() int { return s.c.Call(id, x) }, func() int { return s.m.call(id, x) })
	if up {
		s.asked = append(s.asked, by)
	}
	if up && got != len(s.asked) || !up && got != 0 {
		s.t.Fatalf("Call(%d, %+v): told %d as the call's number", id, x, got)
	}
	return got
}

// tick lets time go on at a node.
func (s *stage) tick(id int) bool {
	s.t.Helper()
	return quiet(s, fmt.Sprintf("Tick(%d)", id), id, func() bool { return s.c.Tick(id) }, func() bool { return s.m.event(id, (*node.Node).Tick) })
}

// step has a node do a step.
func (s *stage) step(id int) bool {
	s.t.Helper()
	return quiet(s, fmt.Sprintf("Step(%d)", id), id, func() bool { return s.c.Step(id) }, func() bool { return s.m.event(id, (*node.Node).Step) })
}

// take has a message come.
func (s *stage) take(which int) bool {
	s.t.Helper()
	_, to, _, ok := s.m.link(which)
	if !ok {
		to = -1
	}
	return quiet(s, fmt.Sprintf("Take(%d)", which), to, func() bool { return s.c.Take(which) }, func() bool { return s.m.take(which) })
}

// drop loses a message.
func (s *stage) drop(which int) bool {
	s.t.Helper()
	return is(s, fmt.Sprintf("Drop(%d)", which), s.c.Drop(which), s.m.drop(which))
}

// double has a message wait twice.
func (s *stage) double(which int) bool {
	s.t.Helper()
	return is(s, fmt.Sprintf("Double(%d)", which), s.c.Double(which), s.m.double(which))
}

// crash has a node fall.
func (s *stage) crash(id int) bool {
	s.t.Helper()
	return is(s, fmt.Sprintf("Crash(%d)", id), s.c.Crash(id), s.m.fall(id))
}

// fence has a fence take effect.
func (s *stage) fence(picks ...int) bool {
	s.t.Helper()
	return is(s, fmt.Sprintf("Fence(%v)", picks), s.c.Fence(picks...), s.m.d.Takes(picks...) != 0)
}

// power has all fall.
func (s *stage) power(picks ...int) {
	s.t.Helper()
	s.c.Power(picks...)
	s.m.power(picks...)
	s.after(fmt.Sprintf("Power(%v)", picks))
}

// mails has all messages come, and those that they bring; those to and from who isn't reached get lost.
func (s *stage) mails() {
	s.t.Helper()
	for took := 0; s.c.Waits() > 0; took++ {
		which := s.first(s.c.Waits())
		if from, to, _, _ := s.m.link(which); s.cut(from) || s.cut(to) {
			s.drop(which)
		} else {
			s.take(which)
		}
		if took > 5000 {
			s.t.Fatal("messages are sent for ever")
		}
	}
}

// ticks has all tick, and all messages come.
func (s *stage) ticks() {
	s.t.Helper()
	for id := range s.m.l.Nodes {
		if !s.cut(id) {
			s.tick(id)
		}
	}
	s.mails()
}

// steps has a node do steps, at most so many, as long as it is busy.
func (s *stage) steps(id, many int) {
	s.t.Helper()
	for k := 0; k < many && seen(s.c.Node(id)).busy; k++ {
		s.step(id)
	}
}

// round is one in which nothing goes wrong, but for who isn't reached: all tick, all messages come, all do some steps, and fences take effect.
func (s *stage) round() {
	s.t.Helper()
	s.ticks()
	for id := range s.m.l.Nodes {
		if !s.cut(id) {
			s.steps(id, 20)
		}
	}
	for s.c.Pending() > 0 {
		s.fence(s.picks...)
	}
}

// most is in how many rounds all that waits must be done, once nothing goes wrong any more.
const most = 50

// rest is T5: all nodes are up, and rounds go on till no call waits and nobody is dead.
func (s *stage) rest() {
	s.t.Helper()
	for range most {
		s.startAll()
		v := s.view()
		idle := view.Open(v) && len(v.Members) == s.m.l.Nodes
		for id := range s.m.l.Nodes {
			idle = idle && s.c.Node(id).Waits() == 0 && s.c.Node(id).Epoch() == v.Epoch
		}
		if idle {
			return
		}
		s.round()
	}
	s.t.Fatalf("calls wait for ever: view %v", s.view())
}

// home has all be done and kept, and is T2: what lies there is the tree of all calls that are not lost.
func (s *stage) home() {
	s.t.Helper()
	s.rest()
	for id := range s.m.l.Nodes {
		s.call(id, syncs())
	}
	s.rest()
	lines, e := check.Lines(s.c.Layout(), s.c.Peek)
	if want := s.tree.All(); e != api.OK || !slices.Equal(lines, want) {
		s.t.Fatalf("on the disk lies %v, %v; want %v", lines, e, want)
	}
	if n, want := check.Taken(s.c.Layout(), s.c.Peek), layout.Room(s.m.l)-s.tree.Free(); n != want {
		s.t.Fatalf("%d sectors are taken, want %d", n, want)
	}
	s.settled()
}

// settled holds of all calls that those are answered, once, which were asked of one that is up still, and not passed over; and of others none behind its fall.
func (s *stage) settled() {
	s.t.Helper()
	told := make([]int, len(s.asked))
	for _, a := range s.c.Answers() {
		told[a.ID-1]++
	}
	for i, by := range s.asked {
		up := by.inc > 0 && s.c.Node(by.node) != nil && s.c.Node(by.node).Inc() == by.inc
		if told[i] > 1 || up && told[i] == 0 || by.inc == 0 && told[i] > 0 {
			s.t.Fatalf("call %d, asked of %v, is answered %d times", i+1, by, told[i])
		}
	}
}

// reply is what a call was told; false, if it is not answered.
func (s *stage) reply(number int) (api.Reply, bool) {
	for _, a := range s.c.Answers() {
		if a.ID == number {
			return a.Reply, true
		}
	}
	return api.Reply{}, false
}

// done is a call at a node that is done at once; told is what it told.
func (s *stage) done(id int, x api.Call) api.Reply {
	s.t.Helper()
	r, ok := s.reply(s.call(id, x))
	if !ok {
		s.t.Fatalf("%+v at %d isn't done", x, id)
	}
	return r
}

// lostOnes are the numbers of the calls that are lost.
func (s *stage) lostOnes() []int {
	var l []int
	for _, x := range s.c.Events() {
		if x.Lost {
			l = append(l, x.ID)
		}
	}
	return l
}

// lists holds numbers against those that should be.
func (s *stage) lists(what string, got []int, want ...int) {
	s.t.Helper()
	if !slices.Equal(got, want) {
		s.t.Fatalf("%s: %v, want %v", what, got, want)
	}
}

// Calls.
func create(p string) api.Call     { return api.Call{Op: api.OpCreate, Path: p} }
func mkdir(p string) api.Call      { return api.Call{Op: api.OpMkdir, Path: p} }
func rename(p, to string) api.Call { return api.Call{Op: api.OpRename, Path: p, To: to} }
func stat(p string) api.Call       { return api.Call{Op: api.OpStat, Path: p} }
func readdir(p string) api.Call    { return api.Call{Op: api.OpReaddir, Path: p} }
func syncs() api.Call              { return api.Call{Op: api.OpSync} }
func statfs() api.Call             { return api.Call{Op: api.OpStatfs} }
func write(p string, at int, s string) api.Call {
	return api.Call{Op: api.OpWrite, Path: p, At: at, Data: s}
}
func read(p string, at, n int) api.Call { return api.Call{Op: api.OpRead, Path: p, At: at, N: n} }

// draws are numbers that look drawn, and are the same each time.
type draws uint64

// below is one from 0 to k - 1.
func (d *draws) below(k int) int {
	*d = *d*6364136223846793005 + 1442695040888963407
	return int(uint64(*d) >> 33 % uint64(k))
}
