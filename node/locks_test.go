package node_test

import (
	"fmt"
	"strings"
	"testing"

	"lockgate/api"
	"lockgate/layout"
	"lockgate/node"
	"lockgate/view"
)

// modes are those that a node has.
func modes(n *node.Node) string {
	return fmt.Sprint(n.Mode(0), n.Mode(1), n.Mode(2), n.Mode(3))
}

// has holds the modes that a node has against what they should be.
func has(t *testing.T, what string, n *node.Node, want string) {
	t.Helper()
	if got := modes(n); got != want {
		t.Errorf("%s: it has %s, want %s", what, got, want)
	}
}

// P21.4: zones' masters are the members, by turns, as they are in the view; notes to itself are heard at once.
func TestMasters(t *testing.T) {
	for _, c := range []struct {
		nodes, id int
		others    []int
		masters   [4]int
	}{{1, 0, nil, [4]int{0, 0, 0, 0}}, {2, 0, []int{1}, [4]int{0, 1, 0, 1}}, {3, 1, []int{2}, [4]int{1, 2, 1, 2}}, {3, 1, []int{0, 2}, [4]int{0, 1, 2, 0}}, {8, 7, []int{1, 2, 4, 5}, [4]int{1, 2, 4, 5}}, {8, 2, []int{0, 4, 5, 6, 7}, [4]int{0, 2, 4, 5}}} {
		for zone, path := range []string{"/d", "/a", "/b", "/c"} {
			b, n := with(t, 500, c.nodes, c.id, c.others...)
			epoch := b.view().Epoch
			what := fmt.Sprint(c, " zone ", zone)
			if o := n.Call(1, create(path)); c.masters[zone] == c.id {
				is(t, what, o, "=1 0; done [1]")
			} else {
				is(t, what, o, fmt.Sprintf(">%d want e%d z%d m2 #1", c.masters[zone], epoch, zone))
			}
			for _, from := range c.others { // a Grant counts if it is from the master
				o := n.Mail(from, note(api.NoteGrant, epoch, zone, api.Alone, 1))
				if from == c.masters[zone] {
					is(t, what, o, "=1 0; done [1]")
				} else {
					b.nothing(what, o)
				}
			}
			want := []string{"0", "0", "0", "0"}
			want[zone] = "2"
			has(t, what, n, strings.Join(want, " "))
		}
	}
}

// P21.4: others' notes are heard if they are of its epoch and from members: Wants and Drops by the zone's master, Grants and Calls from that.
func TestWhichNotes(t *testing.T) {
	fresh := func() *node.Node {
		_, n := with(t, 260, 4, 0, 1, 2)
		return n
	}
	for zone, master := range []int{0, 1, 2, 0} {
		for epoch := range 5 {
			for _, from := range []int{1, 2, 3, 7, 8, -1, 1 << 40} {
				counts := epoch == 3 && (from == 1 || from == 2)
				what := func(kind string) string {
					return fmt.Sprintf("a %s of zone %d, epoch %d, from %d", kind, zone, epoch, from)
				}
				only := func(so bool, s string) string {
					if counts && so {
						return s
					}
					return ""
				}
				is(t, what("Want"), fresh().Mail(from, note(api.NoteWant, epoch, zone, api.Alone, 1)), only(master == 0, fmt.Sprintf(">%d grant e3 z%d m2 #1", from, zone)))
				is(t, what("Call"), fresh().Mail(from, note(api.NoteCall, epoch, zone, api.None, 0)), only(master == from, fmt.Sprintf(">%d drop e3 z%d m0 #1", from, zone)))
				n := fresh()
				n.Mail(1, note(api.NoteWant, 3, zone, api.Alone, 1)) // so that it waits also for one that is its own
				n.Call(1, create([]string{"/d", "/a", "/b", "/c"}[zone]))
				is(t, what("Grant"), n.Mail(from, note(api.NoteGrant, epoch, zone, api.Alone, 1)), only(master == from, "=1 0; done [1]"))
				n = fresh()
				n.Mail(from, note(api.NoteWant, 3, zone, api.Alone, 1))
				n.Mail(3-from, note(api.NoteWant, 3, zone, api.Share, 1))
				is(t, what("Drop"), n.Mail(from, note(api.NoteDrop, epoch, zone, api.None, 2)), only(master == 0, fmt.Sprintf(">%d grant e3 z%d m1 #1", 3-from, zone)))
			}
		}
	}
}

// P21.4: a node that isn't open hears nothing of zones; neither of the view ahead, nor of the one that lies there.
func TestNotOpenNotes(t *testing.T) {
	b, n := with(t, 260, 3, 0, 1)
	b.joins(2)
	b.nothing("a Want, not entered", n.Mail(1, note(api.NoteWant, 2, 0, api.Alone, 1)))
	b.nothing("one of that view", n.Mail(1, note(api.NoteWant, 3, 0, api.Alone, 1)))
	b.readies(1)
	b.nothing("one isn't ready", n.Mail(1, note(api.NoteWant, 3, 0, api.Alone, 1)))
	b.readies(2)
	b.nothing("an elder one's", n.Mail(1, note(api.NoteWant, 2, 0, api.Alone, 1)))
	is(t, "open", n.Mail(2, note(api.NoteWant, 3, 0, api.Share, 1)), ">2 grant e3 z0 m1 #1")
	v, _ := view.Leave(b.view(), 0, 2)
	b.set(v)
	b.nothing("not entered", n.Mail(1, note(api.NoteWant, 3, 0, api.Share, 1)))
}

// P21.4: bodies that are no note are passed over.
func TestNoNotes(t *testing.T) {
	b, n := with(t, 260, 3, 0, 1)
	good := note(api.NoteWant, 2, 0, api.Alone, 1)
	for _, body := range []string{"", "x", good[1:], good[:21], good + "\x00", "\x00\x06" + good[2:], "\x00\x00" + good[2:], strings.Repeat("\xff", 22), strings.Repeat("\x00", 22), strings.Repeat("x", 5000)} {
		b.nothing("no note", n.Mail(1, body))
	}
	b.nothing("a zone that there isn't", n.Mail(1, note(api.NoteWant, 2, 4, api.Alone, 1)))
	b.nothing("a zone that there isn't", n.Mail(1, note(api.NoteGrant, 2, 15, api.Alone, 1)))
	is(t, "one", n.Mail(1, good), ">1 grant e2 z0 m2 #1")
	is(t, "the same", n.Mail(1, good), ">1 grant e2 z0 m2 #1")
}

// called is a node 0 of 0 and 1, which has zone 1 alone, and was not called. Zones 0 and 2 are its own, 1 and 3 the other one's.
func called(t *testing.T, path string) (*bench, *node.Node) {
	t.Helper()
	b, n := with(t, 400, 3, 0, 1)
	is(t, "create", n.Call(1, create(path)), ">1 want e2 z1 m2 #1")
	is(t, "a Grant", n.Mail(1, note(api.NoteGrant, 2, 1, api.Alone, 1)), "=1 0; done [1]")
	return b, n
}

// P21.4: a zone that is called is given up, once all that is pending is kept; at once, if nothing is.
func TestGivenUp(t *testing.T) {
	for _, to := range []int{api.None, api.Share} {
		b, n := called(t, "/a")
		root := layout.Root(b.l, 1)
		b.nothing("a Call", n.Mail(1, note(api.NoteCall, 2, 1, to, 1)))
		stands(t, "a Call", n, "up true inc 1 epoch 2 modes 0 2 0 0 waits 0 busy true record 1 kept false")
		l := steps(t, n)
		for _, o := range l[:len(l)-1] {
			b.nothing("a step", o)
		}
		is(t, "the last step", l[len(l)-1], fmt.Sprintf(">1 drop e2 z1 m%d #2", to))
		stands(t, "given up", n, fmt.Sprintf("up true inc 1 epoch 2 modes 0 %d 0 0 waits 0 busy false record 0 kept true", to))
		if b.d.Cached(view.Key(0, 1)) != 0 || !strings.Contains(b.d.Peek(layout.Root(b.l, 1)), "LGI1") {
			t.Error("it isn't home")
		}
		// With None all that it knew of the zone's sectors is forgotten; else it isn't.
		b.lie(root, strings.Repeat("x", 512))
		o := n.Call(2, stat("/a"))
		if to == api.Share {
			is(t, "known still", o, "=2 0 1/1/0; done [2]")
			continue
		}
		is(t, "wanted anew", o, ">1 want e2 z1 m1 #3")
		is(t, "forgotten", n.Mail(1, note(api.NoteGrant, 2, 1, api.Share, 3)), "=2 21; done [2]")
		is(t, "nothing is pending", n.Mail(1, note(api.NoteCall, 2, 1, api.None, 3)), ">1 drop e2 z1 m0 #4")
	}
}

// P21.4: the first call that waits keeps a zone that it needs, if the node has it, and all lesser ones that it needs, in the modes that it needs.
func TestKeptZones(t *testing.T) {
	// rename /a to /b needs zones 1 and 2 alone, of which zone 2 is its own.
	b, n := called(t, "/a")
	is(t, "zone 2 is had by the other one", n.Mail(1, note(api.NoteWant, 2, 2, api.Alone, 1)), ">1 grant e2 z2 m2 #1")
	is(t, "rename", n.Call(2, rename("/a", "/b")), ">1 call e2 z2 m0 #1")
	b.nothing("a Call of zone 1", n.Mail(1, note(api.NoteCall, 2, 1, api.None, 1)))
	stands(t, "kept", n, "up true inc 1 epoch 2 modes 0 2 0 0 waits 1 busy false record 0 kept false")
	b.nothing("once more", n.Step())
	is(t, "it gets zone 2", n.Mail(1, note(api.NoteDrop, 2, 2, api.None, 2)), "=2 0; done [2]")
	stands(t, "zones are given up ahead of calls", n, "up true inc 1 epoch 2 modes 0 2 2 0 waits 0 busy false record 0 kept false")
	b.nothing("behind it", n.Step())
	stands(t, "not needed any more", n, "up true inc 1 epoch 2 modes 0 2 2 0 waits 0 busy true record 1 kept false")
	l := steps(t, n)
	is(t, "given up", l[len(l)-1], ">1 drop e2 z1 m0 #2")
	has(t, "given up", n, "0 0 2 0")
}

// P21.4: a zone is given up, if a lesser one that the call needs isn't had.
func TestGreaterGivenUp(t *testing.T) {
	_, n := with(t, 260, 3, 0, 1)
	is(t, "zone 2", n.Call(1, stat("/b")), "=1 12; done [1]")
	is(t, "zones 1, 2", n.Call(2, rename("/a", "/b")), ">1 want e2 z1 m1 #1")
	is(t, "zone 2 is wanted by the other one", n.Mail(1, note(api.NoteWant, 2, 2, api.Alone, 1)), ">1 grant e2 z2 m2 #1")
	has(t, "given up", n, "0 0 0 0")
	is(t, "zone 1", n.Mail(1, note(api.NoteGrant, 2, 1, api.Share, 1)), "=2 12; done [2]")
}

// P21.4: a zone that is had in a weaker mode than the call needs is given up, too, and wanted anew.
func TestWeakerGivenUp(t *testing.T) {
	b, n := with(t, 260, 3, 0, 1)
	is(t, "stat", n.Call(1, stat("/a")), ">1 want e2 z1 m1 #1")
	is(t, "a Grant", n.Mail(1, note(api.NoteGrant, 2, 1, api.Share, 1)), "=1 12; done [1]")
	is(t, "create", n.Call(2, create("/a")), ">1 want e2 z1 m2 #2")
	is(t, "a Call", n.Mail(1, note(api.NoteCall, 2, 1, api.None, 2)), ">1 drop e2 z1 m0 #3; >1 want e2 z1 m2 #4")
	has(t, "given up", n, "0 0 0 0")
	b.nothing("a Grant of what it wanted then", n.Mail(1, note(api.NoteGrant, 2, 1, api.Alone, 2)))
	is(t, "a Grant", n.Mail(1, note(api.NoteGrant, 2, 1, api.Alone, 4)), "=2 0; done [2]")
	// Called to Share it is kept all the same, as long as the call needs that alone.
	b, n = called(t, "/a")
	n.Mail(1, note(api.NoteWant, 2, 2, api.Alone, 1))
	n.Call(2, link("/a", "/b"))
	b.nothing("a Call", n.Mail(1, note(api.NoteCall, 2, 1, api.Share, 1)))
	stands(t, "kept", n, "up true inc 1 epoch 2 modes 0 2 0 0 waits 1 busy false record 0 kept false")
}

// P21.4: forgotten are all of a zone's sectors, from the first one to the last one, and no others.
func TestAllForgotten(t *testing.T) {
	for i, c := range []struct {
		call api.Call
		want string
	}{{statfs(), "=3 21; done [3]"}, {stat("/a"), "=3 21; done [3]"}, {stat("/a"), "=3 21; done [3]"}, {statfs(), "=3 0 free 2; done [3]"}} {
		b, n := with(t, 134, 3, 0, 1) // zones of three sectors: the last one of zone 1 has its names
		b.byHand(create("/a"))
		is(t, "stat", n.Call(1, stat("/a")), ">1 want e2 z1 m1 #1")
		is(t, "stat", n.Mail(1, note(api.NoteGrant, 2, 1, api.Share, 1)), "=1 0 1/1/0; done [1]")
		is(t, "statfs", n.Call(2, statfs()), ">1 want e2 z3 m1 #1")
		is(t, "statfs", n.Mail(1, note(api.NoteGrant, 2, 3, api.Share, 1)), "=2 0 free 2; done [2]")
		is(t, "given up", n.Mail(1, note(api.NoteCall, 2, 1, api.None, 1)), ">1 drop e2 z1 m0 #2")
		b.lie(layout.Begin(b.l, 1)+i, strings.Repeat("\xff", 512))
		is(t, "wanted anew", n.Call(3, c.call), ">1 want e2 z1 m1 #3")
		is(t, fmt.Sprint("sector ", i), n.Mail(1, note(api.NoteGrant, 2, 1, api.Share, 3)), c.want)
	}
}

// P21.4: it is the first call's needs alone that keep a zone; with an OpSync first, or none, all that are called are given up.
func TestFirstCallKeeps(t *testing.T) {
	_, n := with(t, 260, 3, 0, 1)
	n.Mail(1, note(api.NoteWant, 2, 0, api.Alone, 1))
	is(t, "zone 2", n.Call(1, stat("/b")), "=1 12; done [1]")
	is(t, "zone 0", n.Call(2, stat("/d")), ">1 call e2 z0 m1 #1")
	is(t, "zone 2", n.Call(3, stat("/b")), "")
	is(t, "a Want of zone 2", n.Mail(1, note(api.NoteWant, 2, 2, api.Alone, 1)), ">1 grant e2 z2 m2 #1")
	has(t, "given up", n, "0 0 0 0")

	b, n := called(t, "/a")
	b.nothing("sync", n.Call(2, syncs()))
	n.Mail(1, note(api.NoteCall, 2, 1, api.None, 1))
	n.Call(3, stat("/a"))
	l := steps(t, n)
	is(t, "behind the job", l[len(l)-1], ">1 drop e2 z1 m0 #2; >1 want e2 z1 m1 #3; =2 0; done [2]")
}

// P21.4: all that is pending is kept ahead of giving up any zone, also one in which nothing is pending; several zones are given up behind one job.
func TestAllKept(t *testing.T) {
	b, n := called(t, "/a")
	is(t, "zone 2", n.Call(2, stat("/b")), "=2 12; done [2]")
	is(t, "zone 3", n.Call(3, stat("/c")), ">1 want e2 z3 m1 #1")
	is(t, "zone 3", n.Mail(1, note(api.NoteGrant, 2, 3, api.Share, 1)), "=3 12; done [3]")
	b.nothing("a Want of zone 2", n.Mail(1, note(api.NoteWant, 2, 2, api.Alone, 1)))
	stands(t, "a Want of zone 2", n, "up true inc 1 epoch 2 modes 0 2 1 1 waits 0 busy true record 1 kept false")
	b.nothing("a Call of zone 3", n.Mail(1, note(api.NoteCall, 2, 3, api.None, 1)))
	b.nothing("a Call of zone 1", n.Mail(1, note(api.NoteCall, 2, 1, api.Share, 1)))
	b.nothing("a call in a job", n.Call(4, stat("/d")))
	l := steps(t, n)
	is(t, "given up", l[len(l)-1], ">1 drop e2 z1 m1 #2; >1 grant e2 z2 m2 #1; >1 drop e2 z3 m0 #2; =4 12; done [4]")
	has(t, "given up", n, "1 1 0 0")
}

// P21.4: two who want a zone alone, which both share, both get it, one behind the other.
func TestBothAlone(t *testing.T) {
	c := play(t, 260, 2, 9)
	c.up(0)
	c.up(1)
	c.round()
	c.call(0, stat("/a"))
	c.call(1, stat("/a"))
	c.rest()
	if modes(c.nodes[0]) != "0 1 0 0" || modes(c.nodes[1]) != "0 1 0 0" {
		t.Fatal("they don't share it")
	}
	c.call(0, create("/a"))
	c.call(1, create("/a"))
	if n := c.rest(); n > 9 || len(c.deeds) != 4 {
		t.Errorf("%d rounds, %d calls are done", n, len(c.deeds))
	}
	c.home()
}

// P21.4: a note that comes twice, or late, has nobody have what doesn't fit; what was given up isn't had again by an elder Grant.
func TestLateGrants(t *testing.T) {
	b, n := called(t, "/a")
	n.Mail(1, note(api.NoteCall, 2, 1, api.None, 1))
	steps(t, n)
	b.nothing("the Grant once more", n.Mail(1, note(api.NoteGrant, 2, 1, api.Alone, 1)))
	has(t, "the Grant once more", n, "0 0 0 0")
	is(t, "the Call once more", n.Mail(1, note(api.NoteCall, 2, 1, api.None, 1)), ">1 drop e2 z1 m0 #3")
}
