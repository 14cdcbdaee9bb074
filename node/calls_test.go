package node_test

import (
	"fmt"
	"slices"
	"strings"
	"testing"

	"lockgate/api"
	"lockgate/entry"
	"lockgate/layout"
	"lockgate/node"
	"lockgate/tree"
)

// names are so many names of a zone.
func names(zone, many int) []string {
	var l []string
	for i := 100; len(l) < many; i++ {
		if name := fmt.Sprint(i); entry.Zone(name) == zone {
			l = append(l, name)
		}
	}
	return l
}

// P21.5: with 32 calls that wait, one more is passed over, and never answered; those that wait are done in their order.
func TestWaits(t *testing.T) {
	b, n := with(t, 260, 3, 0, 1)
	is(t, "the first one", n.Call(1, stat("/a")), ">1 want e2 z1 m1 #1")
	want, ids := []string{"=1 12"}, []string{"1"}
	for id := 2; id < 40; id++ {
		b.nothing("one more", n.Call(id, stat("/a")))
		if n.Waits() != min(id, 32) {
			t.Errorf("%d wait", n.Waits())
		}
		if id <= 32 {
			want, ids = append(want, fmt.Sprintf("=%d 12", id)), append(ids, fmt.Sprint(id))
		}
	}
	is(t, "a Grant", n.Mail(1, note(api.NoteGrant, 2, 1, api.Share, 1)), strings.Join(append(want, "done ["+strings.Join(ids, " ")+"]"), "; "))
	is(t, "another one", n.Call(50, stat("/a")), "=50 12; done [50]")
	is(t, "the same number", n.Call(50, stat("/a")), "=50 12; done [50]")
	is(t, "any number", n.Call(-1, stat("/a")), "=-1 12; done [-1]")
}

// P21.5: the first call that waits is done alone, though those behind it might be.
func TestOrder(t *testing.T) {
	b, n := with(t, 260, 3, 0, 1)
	is(t, "the first one", n.Call(1, stat("/a")), ">1 want e2 z1 m1 #1")
	b.nothing("one in its own zone", n.Call(2, stat("/d")))
	b.nothing("one that needs none", n.Call(3, create("bad")))
	b.nothing("a sync", n.Call(4, syncs()))
	has(t, "that", n, "0 0 0 0")
	is(t, "a Grant", n.Mail(1, note(api.NoteGrant, 2, 1, api.Share, 1)), "=1 12; =2 12; =3 1; =4 0; done [1 2 3 4]")
}

// P21.5: of the zones that it needs and hasn't, the least one is wanted, in the mode that it needs; once, as long as it wants that.
func TestOneByOne(t *testing.T) {
	b, n := with(t, 400, 8, 0, 1, 2, 3, 4) // zone z's master is z
	is(t, "statfs", n.Call(1, statfs()), ">1 want e5 z1 m1 #1")
	has(t, "its own one", n, "1 0 0 0")
	for range 3 {
		b.nothing("a step", n.Step())
		b.nothing("a call", n.Call(9, create("/a")))
		b.nothing("a Beat", n.Mail(1, beat(5)))
	}
	is(t, "zone 1", n.Mail(1, note(api.NoteGrant, 5, 1, api.Share, 1)), ">2 want e5 z2 m1 #1")
	b.nothing("it again", n.Mail(1, note(api.NoteGrant, 5, 1, api.Share, 1)))
	is(t, "zone 2, stronger than was wanted", n.Mail(2, note(api.NoteGrant, 5, 2, api.Alone, 1)), ">3 want e5 z3 m1 #1")
	is(t, "zone 3", n.Mail(3, note(api.NoteGrant, 5, 3, api.Share, 1)), fmt.Sprintf(">1 want e5 z1 m2 #2; =1 0 free %d; done [1]", layout.Room(b.l)))
	has(t, "all", n, "1 1 2 1")
}

// P21.5: what a call needs is looked at anew each time; by what lies there, as long as it hasn't the zones.
func TestNeedsChange(t *testing.T) {
	b, n := with(t, 260, 3, 0, 1)
	is(t, "create", n.Call(1, create("/a")), ">1 want e2 z1 m2 #1")
	// Meanwhile the other one makes that file: Share is enough then.
	b.byHand(create("/a"))
	is(t, "a step", n.Step(), ">1 want e2 z1 m1 #2")
	b.nothing("an elder Grant", n.Mail(1, note(api.NoteGrant, 2, 1, api.Alone, 1)))
	is(t, "a Grant", n.Mail(1, note(api.NoteGrant, 2, 1, api.Share, 2)), "=1 17; done [1]")
	has(t, "that", n, "0 1 0 0")
}

// byHand does a call to what lies there.
func (b *bench) byHand(c api.Call) {
	b.t.Helper()
	r, row := b.ops(c)
	if r.Err != api.OK {
		b.t.Fatalf("%v: told %s", c, short(r))
	}
	for _, x := range row {
		b.lie(x.Sector, x.S)
	}
}

// P21.5: sectors are read from what it knows, or the disk; what was read of a zone that it has is known then, what was of others isn't.
func TestKnown(t *testing.T) {
	b, n := with(t, 260, 3, 0, 1)
	is(t, "stat", n.Call(1, stat("/a")), ">1 want e2 z1 m1 #1")
	b.byHand(create("/a"))
	b.byHand(create("/e"))
	is(t, "what lies there by now", n.Mail(1, note(api.NoteGrant, 2, 1, api.Share, 1)), "=1 0 1/1/0; done [1]")
	b.byHand(write("/a", 0, "x"))
	is(t, "what is known", n.Call(2, stat("/a")), "=2 0 1/1/0; done [2]")
	is(t, "what isn't", n.Call(3, stat("/i")), "=3 12; done [3]")
	b.byHand(write("/e", 0, "xy"))
	is(t, "what wasn't read", n.Call(4, stat("/e")), "=4 0 1/1/2; done [4]")
	b.byHand(write("/e", 0, "xyz"))
	is(t, "what was", n.Call(5, stat("/e")), "=5 0 1/1/2; done [5]")
	is(t, "a Call", n.Mail(1, note(api.NoteCall, 2, 1, api.None, 1)), ">1 drop e2 z1 m0 #2")
	is(t, "stat", n.Call(6, stat("/e")), ">1 want e2 z1 m1 #3")
	is(t, "anew", n.Mail(1, note(api.NoteGrant, 2, 1, api.Share, 3)), "=6 0 1/1/3; done [6]")
	is(t, "anew", n.Call(7, stat("/a")), "=7 0 1/1/1; done [7]")
	// What is known of other zones stays.
	is(t, "zone 2", n.Call(8, stat("/b")), "=8 12; done [8]")
	is(t, "zone 0", n.Call(9, stat("/d")), "=9 12; done [9]")
	b.byHand(create("/b"))
	b.byHand(create("/d"))
	is(t, "a Call", n.Mail(1, note(api.NoteCall, 2, 1, api.None, 3)), ">1 drop e2 z1 m0 #4")
	is(t, "zone 2", n.Call(10, stat("/b")), "=10 12; done [10]")
	is(t, "zone 0", n.Call(11, stat("/d")), "=11 12; done [11]")
	is(t, "zone 0 is given up", n.Mail(1, note(api.NoteWant, 2, 0, api.Alone, 1)), ">1 grant e2 z0 m2 #1")
	is(t, "zone 2", n.Call(12, stat("/b")), "=12 12; done [12]")
	is(t, "zone 0", n.Call(13, stat("/d")), ">1 call e2 z0 m1 #1")
	is(t, "zone 0", n.Mail(1, note(api.NoteDrop, 2, 0, api.Share, 2)), "=13 0 1/1/0; done [13]")
}

// P21.5: what a call changes is known and pending; it lies nowhere yet.
func TestPending(t *testing.T) {
	b, n := alone(t, 260)
	was := lies(b.d)
	is(t, "create", n.Call(1, create("/a")), "=1 0; done [1]")
	is(t, "write", n.Call(2, write("/a", 1, "xy")), "=2 0; done [2]")
	is(t, "read", n.Call(3, read("/a", 0, 9)), `=3 0 "\x00xy"; done [3]`)
	if l := changed(b.d, was); len(l) > 0 || b.d.Cached(9) > 0 {
		t.Errorf("sectors %v are changed", l)
	}
	stands(t, "that", n, "up true inc 1 epoch 1 modes 0 2 0 0 waits 0 busy false record 0 kept false")
	_, n = alone(t, 260)
	for i, c := range []api.Call{stat("/"), readdir("/"), statfs(), unlink("/a"), create("bad"), syncs(), read("/", 0, 9)} {
		if n.Call(i, c); !n.Kept() || n.Waits() > 0 {
			t.Errorf("%v: %s", c, state(n))
		}
	}
}

// filling is a node alone that has made so many files in zone 0.
func filling(t *testing.T, creates int) (*bench, *node.Node) {
	t.Helper()
	b, n := alone(t, 500)
	for i, name := range names(0, creates) {
		is(t, "create", n.Call(i, create("/"+name)), fmt.Sprintf("=%d 0; done [%d]", i, i))
	}
	return b, n
}

// P21.5: what is pending is a row of changes of at most 37, each sector once; a call that had it be longer is done behind a job.
func TestRoom(t *testing.T) {
	// The map, the folder, the list's bytes, and a file each.
	all := names(0, 40)
	b, n := filling(t, 34)
	stands(t, "37 are pending", n, "up true inc 1 epoch 1 modes 2 0 0 0 waits 0 busy false record 0 kept false")
	is(t, "one that changes these", n.Call(50, truncate("/"+all[3], 0)), "=50 0; done [50]")
	is(t, "one that changes nothing", n.Call(51, stat("/a")), "=51 12; done [51]")
	was := lies(b.d)
	b.nothing("one more", n.Call(52, create("/"+all[34])))
	b.nothing("one that might be done", n.Call(53, stat("/a")))
	stands(t, "one more", n, "up true inc 1 epoch 1 modes 2 1 0 0 waits 2 busy true record 1 kept false")
	if l := changed(b.d, was); len(l) > 0 {
		t.Errorf("sectors %v are changed", l)
	}
	l := steps(t, n)
	if len(l) != 37+4+37+3 {
		t.Errorf("%d steps", len(l))
	}
	for _, o := range l[:len(l)-1] {
		b.nothing("a step", o)
	}
	is(t, "the last step", l[len(l)-1], "=52 0; =53 12; done [52 53]")
	stands(t, "behind it", n, "up true inc 1 epoch 1 modes 2 1 0 0 waits 0 busy false record 0 kept false")
	b.nothing("sync", n.Call(54, syncs()))
	if l := steps(t, n); len(l) != 4+4+4+3 || n.Record() != 0 {
		t.Errorf("%d steps", len(l))
	}

	// By one alone, beside others that are pending already.
	_, n = filling(t, 33)
	is(t, "36 are pending", n.Call(50, truncate("/"+all[0], 1)), "=50 0; done [50]")
	if o := n.Call(51, truncate("/"+all[1], 1)); show(o) != "" || n.Record() != 1 {
		t.Errorf("38 would be: told %s; %s", show(o), state(n))
	}

	// By several at once: 36 are pending, and two more come.
	_, n = filling(t, 33)
	is(t, "36 are pending", n.Call(50, write("/"+all[0], 0, "x")), "=50 0; done [50]")
	b.nothing("39 would be", n.Call(51, write("/"+all[1], 0, strings.Repeat("x", 1000))))
	if n.Record() != 1 || n.Kept() {
		t.Error(state(n))
	}
}

// P21.5: a call whose own row is as long as rows may be is done at once, if nothing is pending.
func TestLongCall(t *testing.T) {
	_, n := alone(t, 500)
	is(t, "create", n.Call(1, create("/d")), "=1 0; done [1]")
	is(t, "write", n.Call(2, write("/d", 0, strings.Repeat("x", 6144))), "=2 0; done [2]")
	is(t, "write", n.Call(3, create("/h")), "=3 0; done [3]")
	is(t, "write", n.Call(4, write("/h", 0, strings.Repeat("x", 6144))), "=4 0; done [4]")
	is(t, "29 are pending", n.Call(5, create("/l")), "=5 0; done [5]")
	if o := n.Call(6, write("/l", 0, strings.Repeat("x", 9*512))); show(o) != "" || n.Record() != 1 {
		t.Errorf("told %s: %s", show(o), state(n))
	}
	l := steps(t, n)
	is(t, "behind it", l[len(l)-1], "=6 0; done [6]")
}

// P21.5: OpSync is done at once, if nothing is pending; else behind the job.
func TestSync(t *testing.T) {
	b, n := alone(t, 260)
	is(t, "nothing is pending", n.Call(1, syncs()), "=1 0; done [1]")
	n.Call(2, create("/a"))
	b.nothing("something is", n.Call(3, api.Call{Op: api.OpSync, Path: "bad", At: -1, N: -1}))
	stands(t, "something is", n, "up true inc 1 epoch 1 modes 0 2 0 0 waits 1 busy true record 1 kept false")
	b.nothing("another one", n.Call(4, syncs()))
	b.nothing("a create", n.Call(5, create("/b")))
	b.nothing("and a sync", n.Call(6, syncs()))
	l := steps(t, n)
	var told []string
	for _, o := range l {
		if !empty(o) {
			told = append(told, show(o))
		}
	}
	if fmt.Sprintf("%q", told) != `["=3 0; =4 0; =5 0; done [3 4 5]" "=6 0; done [6]"]` {
		t.Errorf("told %q", told)
	}
	is(t, "nothing is pending", n.Call(7, syncs()), "=7 0; done [7]")
}

// P21.5, R3: each call tells what the tree does, its own lists each time, in the event in which it is done.
func TestTells(t *testing.T) {
	_, n := alone(t, 400)
	var d draws = 7
	x := tree.New(340)
	for i := range 1500 {
		c := some(&d)
		if c.Op == api.OpStatfs {
			continue
		}
		o := n.Call(i, c)
		steps := 0
		for n.Busy() {
			o = n.Step()
			steps++
		}
		if want := x.Do(c); len(o.Answers) != 1 || o.Answers[0].ID != i || !slices.Equal(o.Done, []int{i}) || !equal(o.Answers[0].Reply, want) {
			t.Fatalf("call %d, %v: told %s, want %s", i, c, show(o), short(want))
		}
		if l := o.Answers[0].Reply.Names; len(l) > 0 {
			l[0] = "zz"
		}
		o.Done[0], o.Answers[0].ID = 0, 0
	}
}
