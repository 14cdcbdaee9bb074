package node_test

import (
	"fmt"
	"slices"
	"testing"

	"lockgate/api"
	"lockgate/disk"
	"lockgate/journal"
	"lockgate/layout"
	"lockgate/replay"
	"lockgate/view"
)

// beat is a Beat's bytes, of whatever epoch.
func beat(epoch int) string { return note(api.NoteBeat, epoch, 0, 0, 0) }

// holds holds the view against what it should be, as members and dead ones.
func (b *bench) holds(what, want string) {
	b.t.Helper()
	v := b.view()
	s := fmt.Sprint("epoch ", v.Epoch, ":")
	for _, m := range v.Members {
		s += fmt.Sprintf(" %d.%d", m.Node, m.Inc)
		if m.Ready {
			s += "!"
		}
	}
	for _, d := range v.Dead {
		s += fmt.Sprintf(" -%d.%d", d.Node, d.Inc)
	}
	if s != want {
		b.t.Errorf("%s: the view is %s, want %s", what, s, want)
	}
}

// pending holds the keys that are asked to be fenced against those of members, told as node and incarnation.
func (b *bench) pending(what string, want ...int) {
	b.t.Helper()
	var keys []int
	for i := 0; i < len(want); i += 2 {
		keys = append(keys, view.Key(want[i], want[i+1]))
	}
	if got := b.d.Pending(); !slices.Equal(got, keys) {
		b.t.Errorf("%s: asked to be fenced are %v, want %v", what, got, keys)
	}
}

// P21.3: at each Tick all other members are sent a Beat, whether it has entered the view or not; nobody else is.
func TestBeats(t *testing.T) {
	b := on(t, 400, 5)
	n := b.start(2, 9)
	is(t, "alone", n.Tick(), "")
	for _, id := range []int{4, 0, 1} {
		b.joins(id)
	}
	is(t, "not entered", n.Tick(), ">0 beat; >1 beat; >4 beat")
	is(t, "entered", n.Tick(), ">0 beat; >1 beat; >4 beat")
	b.readies(0, 1, 4)
	is(t, "open", n.Tick(), ">0 beat; >1 beat; >4 beat")
	v, _ := view.Leave(b.view(), 2, 0)
	b.set(v)
	is(t, "without one", n.Tick(), ">1 beat; >4 beat")
	for _, event := range []func() api.Out{n.Step, func() api.Out { return n.Mail(1, beat(1)) }, func() api.Out { return n.Call(1, stat("/")) }} {
		if o := event(); len(o.Mails) > 0 {
			t.Errorf("told %s", show(o))
		}
	}
}

// P21.3: who is not heard of for limit ticks is put out, if enough are left.
func TestLate(t *testing.T) {
	for _, limit := range []int{-5, 0, 1, 2, 3, 7} {
		b, n := within(t, limit, 260, 3, 0, 1, 2)
		most := max(limit, 1)
		for i := range most {
			b.holds(fmt.Sprint("tick ", i), "epoch 3: 0.1! 1.1! 2.1!")
			if n.Mail(2, beat(3)); i < most-1 || most == 1 {
				is(t, "a tick", n.Tick(), ">1 beat; >2 beat")
			}
		}
		if most > 1 {
			n.Tick()
			b.holds(fmt.Sprint("limit ", limit), "epoch 4: 0.1! 2.1 -1.1")
			b.pending("late", 1, 1)
			continue
		}
		// Both are late at once; without the second one there aren't enough.
		b.holds("limit 1", "epoch 4: 0.1! 2.1 -1.1")
	}
	// A limit is at most 1000.
	b, n := within(t, 2000, 260, 3, 0, 1, 2)
	for range 999 {
		n.Tick()
	}
	b.holds("999 ticks", "epoch 3: 0.1! 1.1! 2.1!")
	n.Tick()
	b.holds("1000 ticks", "epoch 4: 0.1! 2.1 -1.1")
}

// P21.3: all that are late are put out in one Tick, each by a swap, as long as enough are left; also by one that isn't the chief.
func TestAllLate(t *testing.T) {
	b, n := within(t, 2, 400, 5, 3, 0, 1, 2, 4)
	n.Tick()
	n.Mail(2, beat(5))
	is(t, "those that are late", n.Tick(), ">0 beat; >1 beat; >2 beat; >4 beat")
	b.holds("late", "epoch 7: 2.1 3.1! 4.1 -0.1 -1.1")
	b.pending("by one that isn't the chief")
	if n.Epoch() != 7 {
		t.Error("it has not entered")
	}
}

// P21.3: a Beat is heard by its pulse always: of any epoch, while it isn't open, too; other notes aren't.
func TestHeard(t *testing.T) {
	for what, body := range map[string]string{"of this view": beat(4), "of an elder one": beat(1), "of a later one": beat(99), "none": note(api.NoteWant, 4, 0, api.Share, 1), "bytes": "beat", "nothing": "", "a Beat, and more": beat(4) + "\x00"} {
		b, n := within(t, 2, 260, 3, 0, 1, 2)
		b.joins(1) // dead since: it is never open
		n.Step()
		n.Tick()
		b.nothing(what, n.Mail(1, body))
		b.nothing("another one", n.Mail(2, beat(4)))
		b.nothing("strangers", n.Mail(7, beat(4)))
		b.nothing("strangers", n.Mail(-1, beat(4)))
		b.nothing("itself", n.Mail(0, beat(4)))
		n.Tick()
		want := "epoch 4: 0.1! 1.2 2.1 -1.1"
		if body != beat(4) && body != beat(1) && body != beat(99) {
			want = "epoch 5: 0.1! 2.1 -1.1 -1.2"
		}
		b.holds(what, want)
	}
}

// P21.3: as long as it hasn't entered the view, it puts nobody out; once it has, it begins anew with all.
func TestLateEntered(t *testing.T) {
	b, n := within(t, 3, 260, 3, 0, 1, 2)
	n.Tick()
	n.Tick()
	b.joins(2)
	n.Tick() // the third one: late, but in the view ahead
	b.holds("the third tick", "epoch 4: 0.1! 1.1 2.2 -2.1")
	n.Tick()
	n.Tick()
	b.holds("two more", "epoch 4: 0.1! 1.1 2.2 -2.1")
	n.Tick()
	b.holds("three more", "epoch 5: 0.1! 2.2 -1.1 -2.1")
}

// P21.3: with a job, or something pending, late ones are put out all the same.
func TestLateInJob(t *testing.T) {
	b, n := within(t, 1, 260, 3, 0, 1, 2)
	n.Call(1, create("/d"))
	n.Call(2, syncs())
	n.Tick()
	b.holds("in a job", "epoch 4: 0.1 2.1 -1.1")
	b.pending("in a job")
	stands(t, "in a job", n, "up true inc 1 epoch 3 modes 2 0 0 0 waits 1 busy true record 1 kept false")
}

// P21.3: the chief alone has dead ones fenced: all that are registered, at each Tick; as long as one is, no journal is looked at.
func TestFences(t *testing.T) {
	b := on(t, 400, 5)
	for _, id := range []int{1, 4, 3, 3, 1, 3, 2} {
		b.joins(id)
	}
	other := b.start(2, 99)
	n := b.start(0, 99)
	b.holds("ahead", "epoch 9: 0.1 1.2 2.2 3.3 4.1 -1.1 -2.1 -3.1 -3.2")
	other.Tick()
	b.pending("not the chief")
	was := lies(b.d)
	is(t, "a tick", n.Tick(), ">1 beat; >2 beat; >3 beat; >4 beat")
	b.pending("the chief", 1, 1, 2, 1, 3, 1, 3, 2)
	n.Tick()
	b.pending("the chief, again", 1, 1, 2, 1, 3, 1, 3, 2)
	for range 3 {
		b.d.Takes()
		is(t, "a tick", n.Tick(), ">1 beat; >2 beat; >3 beat; >4 beat")
	}
	b.pending("the last one", 3, 2)
	b.d.Power()
	b.pending("power")
	n.Tick()
	b.pending("asked anew", 3, 2)
	if l := changed(b.d, was); fmt.Sprint(l) != "[1]" || len(b.view().Dead) != 4 {
		t.Errorf("sectors %v are changed", l)
	}
	b.d.Takes()
	for _, want := range []string{"+1.1 0", "+2.1 0", "+3.1 0", "+3.2 0"} {
		other.Tick()
		is(t, "a tick", n.Tick(), ">1 beat; >2 beat; >3 beat; >4 beat; "+want)
	}
	b.holds("in the end", "epoch 9: 0.1! 1.2 2.2! 3.3 4.1")
	is(t, "nobody is dead", n.Tick(), ">1 beat; >2 beat; >3 beat; >4 beat")
}

// P21.3: a dead one that isn't registered is buried, if no other one is registered; the head's done is told.
func TestBuried(t *testing.T) {
	for what, c := range map[string]struct {
		head string
		done int
	}{"a new journal": {journal.Head(0), 0}, "a head": {journal.Head(7), 7}, "no head": {fill("x"), 0}, "bytes": {journal.Head(7)[:511] + "x", 0}} {
		b := on(t, 260, 3)
		b.joins(2)
		b.d.Fence(hand, view.Key(2, 1))
		b.d.Takes()
		b.joins(2)
		n := b.start(0, 9)
		b.lie(layout.Journal(b.l, 2), c.head)
		is(t, what, n.Tick(), fmt.Sprint(">2 beat; +2.1 ", c.done))
		b.holds(what, "epoch 3: 0.1! 2.2")
		b.pending(what)
	}
}

// P21.3: nothing of that is done without enough members, with a job, or with something pending; but it is, ahead of entering the view.
func TestNotChief(t *testing.T) {
	b := on(t, 400, 5)
	b.joins(2)
	b.joins(2)
	n := b.start(0, 9)
	n.Tick()
	b.pending("two of five")
	b.joins(1)
	n.Tick()
	b.pending("three of five, not entered", 2, 1)

	b, n = with(t, 260, 3, 0, 1)
	n.Call(1, create("/d"))
	b.joins(2)
	b.joins(2)
	was := state(n)
	n.Tick()
	if b.pending("pending"); !n.Busy() {
		t.Errorf("it was %s, is %s", was, state(n))
	}
	n.Tick()
	b.pending("a job")
	for n.Busy() {
		b.pending("a job")
		n.Step()
	}
	b.pending("behind it")
	n.Tick()
	b.pending("kept", 2, 1)
}

// record has a record of some changes lie whole in a node's journal, done ahead of it up to seq - 1.
func (b *bench) record(id, seq int, l ...api.Change) {
	b.t.Helper()
	at := layout.Journal(b.l, id)
	b.lie(at, journal.Head(seq-1))
	log, e := replay.Log(at, api.JournalSize, seq, l)
	if n, e2 := replay.Do(b.d, hand, log); e != api.OK || e2 != api.OK || n != len(log) {
		b.t.Fatalf("no record: %v, %v", e, e2)
	}
}

// P21.3, P21.6: with something to redo the chief does that, step by step, and buries behind it.
func TestRedone(t *testing.T) {
	b := on(t, 260, 3)
	b.joins(2)
	b.joins(1)
	b.joins(2)
	b.joins(1)
	n := b.start(0, 9)
	b.record(2, 5, api.Change{Sector: 200, S: fill("a")}, api.Change{Sector: 201, S: fill("b")})
	n.Tick()
	b.d.Takes()
	b.d.Takes()
	is(t, "nothing to redo", n.Tick(), ">1 beat; >2 beat; +1.1 0")
	stands(t, "one at a time", n, "up true inc 1 epoch 5 modes 0 0 0 0 waits 0 busy false record 0 kept true")
	is(t, "something to redo", n.Tick(), ">1 beat; >2 beat")
	busy := "up true inc 1 epoch 5 modes 0 0 0 0 waits 0 busy true record 0 kept true"
	stands(t, "something to redo", n, busy)
	mirror, want := b.copied(), []string{}
	for i, s := range replay.Home(layout.Journal(b.l, 2), 5, []api.Change{{Sector: 200, S: fill("a")}, {Sector: 201, S: fill("b")}}) {
		is(t, "a tick", n.Tick(), ">1 beat; >2 beat")
		stands(t, "a tick", n, busy)
		replay.Do(mirror, view.Key(0, 1), []api.Step{s})
		o := n.Step()
		want = append(want, show(o))
		if i < 4 {
			b.like(fmt.Sprint("step ", i), mirror, view.Key(0, 1))
		}
	}
	if fmt.Sprintf("%q", want) != `["" "" "" "" "+2.1 5"]` {
		t.Errorf("the steps told %q", want)
	}
	b.holds("in the end", "epoch 5: 0.1! 1.2 2.2")
	if b.d.Peek(201) != fill("b") || b.d.Peek(200) != fill("a") || b.d.Peek(layout.Journal(b.l, 2)) != journal.Head(5) {
		t.Error("it isn't home")
	}
	stands(t, "in the end", n, "up true inc 1 epoch 5 modes 0 0 0 0 waits 0 busy false record 0 kept true")
}

// P21.6: who was buried by another one meanwhile is told by that.
func TestBuriedTwice(t *testing.T) {
	b := on(t, 260, 3)
	b.joins(2)
	b.joins(2)
	n := b.start(1, 9)
	b.record(2, 1, api.Change{Sector: 200, S: fill("a")})
	n.Tick()
	b.d.Takes()
	n.Tick()
	if !n.Busy() {
		t.Fatal("there is no job")
	}
	n.Step()
	other := b.start(0, 9)
	other.Tick()
	if !other.Busy() {
		t.Fatal("there is no job")
	}
	l := steps(t, other)
	is(t, "the other one's last step", l[len(l)-1], "+2.1 1")
	l = steps(t, n)
	is(t, "its last step", l[len(l)-1], "")
	b.holds("in the end", "epoch 4: 0.1! 1.1! 2.2")
	if n.Epoch() != 4 {
		t.Errorf("it has not entered")
	}
}

// P21.3: what may have got lost of zones is said again, if it is open: its table's Calls, and then what it wants.
func TestAgain(t *testing.T) {
	b, n := with(t, 260, 3, 0, 1, 2)
	is(t, "zone 1", n.Call(1, create("/a")), ">1 want e3 z1 m2 #1")
	is(t, "zone 0", n.Mail(2, note(api.NoteWant, 3, 0, api.Share, 4)), ">2 grant e3 z0 m1 #4")
	is(t, "zone 3", n.Mail(1, note(api.NoteWant, 3, 3, api.Alone, 2)), ">1 grant e3 z3 m2 #2")
	is(t, "zone 0 alone", n.Mail(1, note(api.NoteWant, 3, 0, api.Alone, 5)), ">2 call e3 z0 m0 #4")
	is(t, "zone 3, too", n.Mail(2, note(api.NoteWant, 3, 3, api.Share, 1)), ">1 call e3 z3 m1 #2")
	want := ">1 beat; >2 beat; >2 call e3 z0 m0 #4; >1 call e3 z3 m1 #2; >1 want e3 z1 m2 #1"
	is(t, "a tick", n.Tick(), want)
	is(t, "another one", n.Tick(), want)
	b.joins(2)
	is(t, "not open", n.Tick(), ">1 beat; >2 beat")
	is(t, "entered", n.Tick(), ">1 beat; >2 beat")
}

// P21.3: in a job it is said again, too.
func TestAgainInJob(t *testing.T) {
	_, n := with(t, 260, 3, 0, 1, 2)
	n.Call(1, create("/d"))
	n.Mail(2, note(api.NoteWant, 3, 3, api.Share, 1))
	n.Mail(1, note(api.NoteWant, 3, 3, api.Alone, 1))
	n.Call(2, syncs())
	is(t, "a tick", n.Tick(), ">1 beat; >2 beat; >2 call e3 z3 m0 #1")
	if !n.Busy() {
		t.Error("there is no job")
	}
}

// copied is another disk, on which lies what lies on the first one, with all keys of members.
func (b *bench) copied() *disk.Disk {
	d := disk.New(b.d.Sectors())
	d.Register(hand)
	for i, s := range lies(b.d) {
		d.Write(hand, i, s)
	}
	d.Flush(hand)
	for _, m := range b.view().Members {
		d.Register(view.Key(m.Node, m.Inc))
	}
	return d
}

// like holds the disk against another one.
func (b *bench) like(what string, d *disk.Disk, key int) {
	b.t.Helper()
	if l := changed(b.d, lies(d)); len(l) > 0 || b.d.Cached(key) != d.Cached(key) {
		b.t.Errorf("%s: sectors %v are not so, or %d are in the cache, want %d", what, l, b.d.Cached(key), d.Cached(key))
	}
}
