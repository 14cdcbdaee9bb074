package node_test

import (
	"fmt"
	"strings"
	"testing"

	"lockgate/api"
	"lockgate/disk"
	"lockgate/layout"
	"lockgate/node"
	"lockgate/ops"
	"lockgate/view"
)

// events are one of each kind.
var events = map[string]func(n *node.Node) api.Out{
	"call": func(n *node.Node) api.Out { return n.Call(99, create("/x")) },
	"mail": func(n *node.Node) api.Out { return n.Mail(1, note(api.NoteWant, 2, 0, api.Alone, 1)) },
	"tick": func(n *node.Node) api.Out { return n.Tick() },
	"step": func(n *node.Node) api.Out { return n.Step() },
}

// isDown holds a node to be down: it tells nothing and does nothing, whatever comes.
func (b *bench) isDown(what string, n *node.Node) {
	b.t.Helper()
	was, pending := lies(b.d), fmt.Sprint(b.d.Pending())
	cached := b.d.Cached(view.Key(0, n.Inc()))
	told := strings.Replace(state(n), "up true", "up false", 1)
	for name, event := range events {
		b.nothing(what+", then a "+name, event(n))
		stands(b.t, what+", then a "+name, n, told)
	}
	if l := changed(b.d, was); len(l) != 0 || pending != fmt.Sprint(b.d.Pending()) || b.d.Cached(view.Key(0, n.Inc())) != cached {
		b.t.Errorf("%s: it changes %v", what, l)
	}
}

// P21.2: by each event who is fenced, is no member of the view, or finds none, is down: it tells nothing, and does nothing, then and later, whatever lies there later.
func TestDown(t *testing.T) {
	for name, event := range events {
		for what, do := range map[string]func(b *bench, n *node.Node){
			"fenced": func(b *bench, n *node.Node) {
				b.d.Fence(hand, view.Key(0, n.Inc()))
				b.d.Takes(0)
			},
			"left":          func(b *bench, n *node.Node) { v, _ := view.Leave(b.view(), 1, 0); b.set(v) },
			"joined anew":   func(b *bench, n *node.Node) { b.joins(0) },
			"nobody there":  func(b *bench, n *node.Node) { b.set(view.New(3)) },
			"no view":       func(b *bench, n *node.Node) { b.lie(1, strings.Repeat("\x00", 512)) },
			"a broken view": func(b *bench, n *node.Node) { b.lie(1, b.d.Peek(1)[:511]+"x") },
		} {
			b, n := with(t, 260, 3, 0, 1, 2)
			is(t, "create", n.Call(1, create("/d")), "=1 0; done [1]")
			n.Call(2, syncs()) // a job, which goes on no more
			n.Step()
			good := b.d.Peek(1)
			do(b, n)
			told := strings.Replace(state(n), "up true", "up false", 1)
			was, cached := lies(b.d), b.d.Cached(view.Key(0, 1))
			b.nothing(name+", "+what, event(n))
			stands(t, name+", "+what, n, told)
			if l := changed(b.d, was); len(l) != 0 || b.d.Cached(view.Key(0, 1)) != cached {
				t.Errorf("%s, %s: it changes %v", name, what, l)
			}
			b.isDown(name+", "+what, n)
			b.lie(1, good)
			b.isDown(name+", "+what+", undone", n)
		}
	}
}

// P21.2: who is asked to be fenced only, or is a member of another view, isn't down.
func TestNotDown(t *testing.T) {
	for name, event := range events {
		b, n := with(t, 260, 3, 0, 1, 2)
		b.d.Fence(hand, view.Key(0, 1))
		event(n)
		b.joins(1)
		event(n)
		b.joins(2)
		event(n)
		if !n.Up() {
			t.Errorf("%s: it is down", name)
		}
	}
}

// small is a node of one on a disk with fewer sectors than its layout has.
func small(t *testing.T, has, sectors int) (*bench, *node.Node) {
	t.Helper()
	l, _ := layout.New(sectors, 1)
	row, _ := ops.Format(l)
	b := &bench{t: t, l: l, d: disk.New(has)}
	b.d.Register(hand)
	for _, c := range row {
		if c.Sector < has {
			b.lie(c.Sector, c.S)
		}
	}
	return b, b.start(0, 9)
}

// P21.2: who a command tells an error is down, and tells nothing of that event.
func TestCommandErrors(t *testing.T) {
	// Zone 0 begins at 42, zone 1 at 131, which isn't there.
	b, n := small(t, 50, 400)
	is(t, "no zone", n.Call(1, create("bad")), "=1 1; done [1]")
	is(t, "zone 0", n.Call(2, create("/d")), "=2 0; done [2]")
	b.nothing("a sector that isn't there", n.Call(3, create("/a")))
	stands(t, "that", n, "up false inc 1 epoch 1 modes 2 0 0 0 waits 1 busy false record 0 kept false")
	b.isDown("a sector that isn't there", n)
}

// P21.2: what was done in the event by which a node falls is told neither.
func TestErrorBehindCalls(t *testing.T) {
	l, _ := layout.New(400, 3)
	row, _ := ops.Format(l)
	b := &bench{t: t, l: l, d: disk.New(130)} // zone 0 begins at 122
	b.d.Register(hand)
	for _, c := range row {
		if c.Sector < 130 {
			b.lie(c.Sector, c.S)
		}
	}
	b.joins(1)
	n := b.start(0, 9)
	for i, c := range []api.Call{create("bad"), create("/d"), create("/a")} {
		b.nothing("not open", n.Call(i, c))
	}
	b.readies(1)
	b.nothing("two calls, and one by which it falls", n.Tick())
	if n.Up() {
		t.Error("it is up")
	}
}

// P21.2: steps of a job, and looks at a journal, are commands, too.
func TestErrorsOfSteps(t *testing.T) {
	b, n := small(t, 50, 400)
	n.Tick()
	is(t, "a long file", n.Call(1, create("/d")), "=1 0; done [1]")
	is(t, "a long file", n.Call(2, write("/d", 0, strings.Repeat("x", 6144))), "=2 0; done [2]")
	b.nothing("sync", n.Call(3, syncs()))
	done := 0
	for n.Up() {
		b.nothing("a step", n.Step())
		done++
	}
	// The map, the folder, its bytes, the file and four of its sectors are there: 42 to 49. Ahead of them come as many steps of Log as there are changes, and four.
	if done != 16+4+8+1 {
		t.Errorf("it is down by step %d", done)
	}
	stands(t, "that", n, "up false inc 1 epoch 1 modes 2 0 0 0 waits 1 busy true record 1 kept false")
	b.isDown("a step", n)

	l, _ := layout.New(260, 3)
	row, _ := ops.Format(l)
	b = &bench{t: t, l: l, d: disk.New(90)} // of node 2's journal there are some sectors
	b.d.Register(hand)
	for _, c := range row[:5] {
		b.lie(c.Sector, c.S)
	}
	b.joins(2)
	b.joins(2)
	b.joins(1)
	n = b.start(0, 9)
	n.Tick()
	b.d.Takes()
	if !n.Up() || b.d.Registered(view.Key(2, 1)) {
		t.Fatal("it is down, or nobody is fenced")
	}
	b.nothing("a journal that isn't there", n.Tick())
	b.isDown("a journal that isn't there", n)
}

// P21.2: a node enters the view that lies there behind any event, and is ready then; it is open once all are.
func TestEnters(t *testing.T) {
	for name, event := range events {
		b := on(t, 260, 3)
		n := b.start(0, 9)
		b.joins(1)
		out := event(n)
		if name == "tick" {
			is(t, "a tick", out, ">1 beat")
		} else {
			b.nothing(name, out)
		}
		waits := 0
		if name == "call" {
			waits = 1
		}
		stands(t, name, n, fmt.Sprintf("up true inc 1 epoch 2 modes 0 0 0 0 waits %d busy false record 0 kept true", waits))
		if got := fmt.Sprint(b.view()); got != "{3 2 [{0 1 true} {1 1 false}] [] [1 1 0]}" {
			t.Errorf("%s: the view is %s", name, got)
		}
		was := lies(b.d)
		event(n)
		if l := changed(b.d, was); len(l) != 0 {
			t.Errorf("%s once more: sectors %v are changed", name, l)
		}
		b.readies(1)
		n.Call(3, stat("/"))
		if n.Mode(0) == api.None {
			t.Errorf("%s: it is not open", name)
		}
	}
}

// P21.2: in a view of too few, or of dead ones, or of some that are not ready, a node is ready, but no call is done.
func TestNotOpen(t *testing.T) {
	b := on(t, 260, 3)
	n := b.start(0, 9)
	b.nothing("one of three", n.Call(1, create("bad")))
	stands(t, "one of three", n, "up true inc 1 epoch 1 modes 0 0 0 0 waits 1 busy false record 0 kept true")
	if got := fmt.Sprint(b.view()); got != "{3 1 [{0 1 true}] [] [1 0 0]}" {
		t.Errorf("the view is %s", got)
	}
	b.joins(1)
	b.nothing("one that isn't ready", n.Step())
	b.joins(1)
	b.readies(1)
	b.nothing("a dead one", n.Step())
	stands(t, "a dead one", n, "up true inc 1 epoch 3 modes 0 0 0 0 waits 1 busy false record 0 kept true")
	v, _ := view.Bury(b.view(), 1, 1)
	b.set(v)
	is(t, "buried", n.Step(), "=1 1; done [1]")
}

// P21.2: one of two is not enough, nor is one of three; with another one, that is ready, calls are done.
func TestOneOfMore(t *testing.T) {
	for _, nodes := range []int{2, 3} {
		b := on(t, 260, nodes)
		n := b.start(1, 9)
		for range 5 {
			b.nothing("a tick", n.Tick())
			b.nothing("a call", n.Call(1, stat("/a")))
		}
		b.joins(0)
		is(t, "a tick", n.Tick(), ">0 beat")
		stands(t, "not all are ready", n, "up true inc 1 epoch 2 modes 0 0 0 0 waits 5 busy false record 0 kept true")
		b.readies(0)
		is(t, "a tick", n.Tick(), ">0 beat; =1 12; =1 12; =1 12; =1 12; =1 12; done [1 1 1 1 1]")
	}
}

// P21.2, P21.4: with something pending a node first keeps that, and enters then; of zones, and of sectors, it knows nothing behind that.
func TestEntersKept(t *testing.T) {
	b, n := with(t, 260, 3, 0, 1)
	is(t, "create", n.Call(1, create("/d")), "=1 0; done [1]")
	is(t, "stat", n.Call(2, stat("/b")), "=2 12; done [2]")
	stands(t, "ahead", n, "up true inc 1 epoch 2 modes 2 0 1 0 waits 0 busy false record 0 kept false")
	b.joins(2)
	b.readies(1, 2)
	b.nothing("another view", n.Call(3, stat("/b")))
	stands(t, "another view", n, "up true inc 1 epoch 2 modes 2 0 1 0 waits 1 busy true record 1 kept false")
	b.lie(layout.Root(b.l, 2), strings.Repeat("x", 512))
	l := steps(t, n)
	for _, o := range l[:len(l)-1] {
		b.nothing("a step", o)
	}
	if len(l) != 4+4+4+3 {
		t.Errorf("%d steps", len(l))
	}
	is(t, "the last step", l[len(l)-1], ">2 want e3 z2 m1 #1")
	stands(t, "entered", n, "up true inc 1 epoch 3 modes 0 0 0 0 waits 1 busy false record 0 kept true")
	if !view.Open(b.view()) {
		t.Error("it isn't ready")
	}
	is(t, "what lies there", n.Mail(2, note(api.NoteGrant, 3, 2, api.Share, 1)), "=3 21; done [3]")
}

// P21.2: a view that comes while a job is under way waits for the job's end.
func TestViewInJob(t *testing.T) {
	b, n := with(t, 260, 3, 0, 1)
	n.Call(1, create("/d"))
	b.nothing("sync", n.Call(2, syncs()))
	n.Step()
	b.joins(2)
	b.nothing("a call", n.Call(3, create("bad")))
	is(t, "a tick", n.Tick(), ">1 beat; >2 beat")
	stands(t, "meanwhile", n, "up true inc 1 epoch 2 modes 2 0 0 0 waits 2 busy true record 1 kept false")
	if b.view().Members[0].Ready {
		t.Error("it is ready")
	}
	b.readies(1, 2)
	l := steps(t, n)
	is(t, "the last step", l[len(l)-1], "=2 0; =3 1; done [2 3]")
	stands(t, "behind it", n, "up true inc 1 epoch 3 modes 0 0 0 0 waits 0 busy false record 0 kept true")
}
