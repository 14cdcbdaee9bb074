package node_test

import (
	"fmt"
	"strings"
	"testing"

	"lockgate/api"
	"lockgate/disk"
	"lockgate/layout"
	"lockgate/node"
	"lockgate/view"
)

// lies is all that lies on a disk.
func lies(d *disk.Disk) []string {
	var l []string
	for i := range d.Sectors() {
		l = append(l, d.Peek(i))
	}
	return l
}

// changed are the sectors in which something else lies than lay there.
func changed(d *disk.Disk, was []string) []int {
	var l []int
	for i, s := range was {
		if d.Peek(i) != s {
			l = append(l, i)
		}
	}
	return l
}

// The chapter's examples.
func TestExamples(t *testing.T) {
	b := on(t, 200, 1)
	n, e := node.Start(0, 9, base, b.l, b.d)
	if e != api.OK {
		t.Fatalf("start: told %v", e)
	}
	is(t, "a tick", n.Tick(), "")
	is(t, "create", n.Call(7, create("/a")), "=7 0; done [7]")
	is(t, "sync", n.Call(8, syncs()), "")
	for n.Busy() {
		o := n.Step()
		if n.Busy() {
			b.nothing("a step", o)
		} else {
			is(t, "the last step", o, "=8 0; done [8]")
		}
	}
	stands(t, "in the end", n, "up true inc 1 epoch 1 modes 0 2 0 0 waits 0 busy false record 0 kept true")
}

// P21.1: who starts is a member from then on, anew each time, by a swap of the view alone; both keys are registered, and it has entered nothing.
func TestStart(t *testing.T) {
	b := on(t, 260, 3)
	want := view.New(3)
	for i, id := range []int{1, 1, 0, 1, 2, 0, 0} {
		was, inc := lies(b.d), 0
		want, inc = view.Join(want, id)
		if b.d.Registered(view.Key(id, inc)) || b.d.Registered(base+i) {
			t.Fatal("keys are registered ahead")
		}
		n, e := node.Start(id, 9, base+i, b.l, b.d)
		if e != api.OK || n == nil {
			t.Fatalf("start %d: told %v", i, e)
		}
		stands(t, fmt.Sprint("start ", i), n, fmt.Sprintf("up true inc %d epoch 0 modes 0 0 0 0 waits 0 busy false record 0 kept true", inc))
		if got := changed(b.d, was); fmt.Sprint(got) != "[1]" || b.d.Peek(1) != viewText(want) {
			t.Errorf("start %d: changed %v; the view is %v, want %v", i, got, b.view(), want)
		}
		if !b.d.Registered(view.Key(id, inc)) || !b.d.Registered(base+i) || len(b.d.Pending()) != 0 {
			t.Errorf("start %d: keys are not as they should be", i)
		}
		if b.d.Cached(view.Key(id, inc)) != 0 || b.d.Cached(base+i) != 0 {
			t.Errorf("start %d: something is in a cache", i)
		}
	}
}

// full is a view of three with as many dead as there may be.
func full() api.View {
	v := api.View{Nodes: 3, Epoch: 30, Incs: []int{0, 22, 0}, Members: []api.Member{{Node: 1, Inc: 22}}}
	for inc := range api.MaxDead {
		v.Dead = append(v.Dead, api.Member{Node: 1, Inc: inc + 1})
	}
	return v
}

// P21.1: what can't be started, and why; of several errors the one that comes first. Nobody is told then, and no view is changed.
func TestStartErrors(t *testing.T) {
	l, _ := layout.New(260, 3)
	two, _ := layout.New(260, 2)
	greater, _ := layout.New(500, 3)
	worst := view.New(3)
	worst.Incs[1] = api.MaxEpoch
	last := view.New(3)
	last.Epoch = api.MaxEpoch
	text := func(v api.View) string { return viewText(v) }
	good := text(view.New(3))
	for _, c := range []struct {
		what    string
		sectors int
		lies    string
		id      int
		probe   int
		l       api.Layout
		want    api.Errno
	}{
		{"a new disk", 260, good, 0, 3, l, api.OK},
		{"another node", 260, good, 2, 1, l, api.OK},
		{"another size", 260, good, 2, 1, greater, api.OK},
		{"no key", 260, good, 0, 0, l, api.ErrArg},
		{"below that", 260, good, 0, -1, l, api.ErrArg},
		{"a key that somebody had", 260, good, 0, hand, l, api.ErrState},
		{"no sector of a view", 1, good, 0, 3, l, api.ErrArg},
		{"no view", 260, strings.Repeat("\x00", 512), 0, 3, l, api.ErrBad},
		{"bytes", 260, strings.Repeat("x", 512), 0, 3, l, api.ErrBad},
		{"a view, and more", 260, good[:511] + "x", 0, 3, l, api.ErrBad},
		{"more than a view", 260, fill(strings.TrimRight(good[2:], "\x00") + strings.Repeat("\x00", 99)), 0, 3, l, api.ErrBad},
		{"a view of two", 260, text(view.New(2)), 0, 3, l, api.ErrBad},
		{"a view of eight", 260, text(view.New(8)), 0, 3, l, api.ErrBad},
		{"a layout of two", 260, good, 0, 3, two, api.ErrBad},
		{"no layout", 260, good, 0, 3, api.Layout{}, api.ErrBad},
		{"a layout that may not be", 260, good, 0, 3, api.Layout{Sectors: 260, Nodes: 3, First: 122, Size: 35}, api.ErrBad},
		{"no such node", 260, good, 3, 3, l, api.ErrBad},
		{"none below", 260, good, -1, 3, l, api.ErrBad},
		{"far", 260, good, 1 << 62, 3, l, api.ErrBad},
		{"many dead", 260, text(full()), 0, 3, l, api.ErrFull},
		{"many dead, at the same node", 260, text(full()), 1, 3, l, api.ErrFull},
		{"the last incarnation", 260, text(worst), 1, 3, l, api.ErrFull},
		{"ahead of that", 260, text(worst), 0, 3, l, api.OK},
		{"the last view", 260, text(last), 0, 3, l, api.ErrFull},
		{"a key that its own is, too", 260, good, 0, 9, l, api.ErrState},
		{"a bad key ahead of no view", 260, strings.Repeat("x", 512), 0, 0, l, api.ErrArg},
		{"a key had ahead of no such node", 260, good, 9, hand, l, api.ErrState},
		{"no sector ahead of no such node", 1, good, 9, 3, l, api.ErrArg},
		{"no such node ahead of many dead", 260, text(full()), 3, 3, l, api.ErrBad},
	} {
		d := disk.New(c.sectors)
		d.Register(hand)
		d.Swap(hand, 1, d.Peek(1), c.lies)
		was := lies(d)
		n, e := node.Start(c.id, 9, c.probe, c.l, d)
		if e != c.want || (n == nil) != (e != api.OK) {
			t.Errorf("%s: told %v, want %v", c.what, e, c.want)
		}
		if e != api.OK && len(changed(d, was)) != 0 {
			t.Errorf("%s: sectors %v are changed", c.what, changed(d, was))
		}
	}
	if n, e := node.Start(0, 9, 3, l, nil); n != nil || e != api.ErrArg {
		t.Errorf("no disk: told %v", e)
	}
}

// P21.1: its key may be had already, by whom it is not: then nobody joins.
func TestKeyHad(t *testing.T) {
	b := on(t, 260, 3)
	b.d.Register(view.Key(1, 1))
	was := lies(b.d)
	if n, e := node.Start(1, 9, base, b.l, b.d); n != nil || e != api.ErrState || len(changed(b.d, was)) != 0 {
		t.Errorf("told %v; changed %v", e, changed(b.d, was))
	}
	if n, e := node.Start(0, 9, base+1, b.l, b.d); n == nil || e != api.OK || n.Inc() != 1 {
		t.Errorf("another one: told %v", e)
	}
}

// Of a nil node nothing is told; all is kept.
func TestNil(t *testing.T) {
	var n *node.Node
	b := &bench{t: t}
	b.nothing("Call", n.Call(1, create("/a")))
	b.nothing("Mail", n.Mail(1, note(api.NoteBeat, 1, 0, 0, 0)))
	b.nothing("Tick", n.Tick())
	b.nothing("Step", n.Step())
	stands(t, "nil", n, "up false inc 0 epoch 0 modes 0 0 0 0 waits 0 busy false record 0 kept true")
}
