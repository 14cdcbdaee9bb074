package node_test

import (
	"fmt"
	"slices"
	"strings"
	"testing"

	"lockgate/api"
	"lockgate/journal"
	"lockgate/layout"
	"lockgate/node"
	"lockgate/replay"
	"lockgate/view"
)

// row is what calls change, one behind the other, on what lies on the disk; each sector once, rising.
func (b *bench) row(l ...api.Call) []api.Change {
	b.t.Helper()
	other := *b
	other.d = b.copied()
	now := map[int]string{}
	for _, c := range l {
		r, row := other.ops(c)
		if r.Err != api.OK {
			b.t.Fatalf("%v: told %s", c, short(r))
		}
		for _, x := range row {
			other.lie(x.Sector, x.S)
			now[x.Sector] = x.S
		}
	}
	var all []api.Change
	for sector := range b.d.Sectors() {
		if s, ok := now[sector]; ok {
			all = append(all, api.Change{Sector: sector, S: s})
		}
	}
	return all
}

// P21.6, P21.7: a job of its own record does Log's and Home's steps, one at each Step, under the number above the head's; at each it tells how far it is.
func TestOwnSteps(t *testing.T) {
	for _, c := range []struct {
		head string
		seq  int
	}{{journal.Head(0), 1}, {journal.Head(7), 8}, {journal.Head(1<<40 - 1), 1 << 40}, {fill("x"), 1}} {
		b, n := with(t, 260, 3, 1, 0, 2) // of zone 1 it is the master
		at := layout.Journal(b.l, 1)
		b.lie(at, c.head)
		calls := []api.Call{create("/a"), create("/e"), write("/a", 0, "xy"), link("/a", "/i")}
		row := b.row(calls...)
		for i, x := range calls {
			is(t, "a call", n.Call(i, x), fmt.Sprintf("=%d 0; done [%d]", i, i))
		}
		log, e := replay.Log(at, api.JournalSize, c.seq, row)
		if e != api.OK || len(row) != 6 {
			t.Fatalf("told %v of %d changes", e, len(row))
		}
		b.nothing("sync", n.Call(9, syncs()))
		mirror, key := b.copied(), view.Key(1, 1)
		all := append(log, replay.Home(at, c.seq, row)...)
		for i, s := range all {
			stands(t, fmt.Sprint("ahead of step ", i), n, fmt.Sprintf("up true inc 1 epoch 3 modes 0 2 0 0 waits 1 busy true record %d kept false", c.seq))
			is(t, "a tick", n.Tick(), ">0 beat; >2 beat")
			b.nothing("a Beat", n.Mail(0, beat(3)))
			b.nothing("a Beat", n.Mail(2, beat(3)))
			replay.Do(mirror, key, []api.Step{s})
			o := n.Step()
			b.like(fmt.Sprint("step ", i), mirror, key)
			if i < len(all)-1 {
				b.nothing("a step", o)
			} else {
				is(t, "the last step", o, "=9 0; done [9]")
			}
		}
		stands(t, "behind it", n, "up true inc 1 epoch 3 modes 0 2 0 0 waits 0 busy false record 0 kept true")
		b.nothing("no job", n.Step())
		b.like("no job", mirror, key)
	}
}

// P21.6: once numbers are used up, nothing can be kept any more: it is down.
func TestLastNumber(t *testing.T) {
	b, n := alone(t, 260)
	b.lie(2, journal.Head(1<<40))
	n.Call(1, create("/a"))
	b.nothing("sync", n.Call(2, syncs()))
	stands(t, "sync", n, "up false inc 1 epoch 1 modes 0 2 0 0 waits 1 busy false record 0 kept false")
	b.isDown("sync", n)
}

// P21.6: what isn't a job is no step of one; the next record has the next number.
func TestNextRecord(t *testing.T) {
	_, n := alone(t, 260)
	for i := range 5 {
		n.Call(1, write("/", 0, "x"))
		n.Call(2, create("/a"))
		n.Call(3, truncate("/a", 300*i))
		n.Call(4, syncs())
		if n.Record() != i+1 {
			t.Errorf("record %d is %d", i, n.Record())
		}
		steps(t, n)
	}
}

// falls are two nodes of three, of which 0 has done some calls that are kept, and others behind them, whose record is under way.
func falls(t *testing.T) *crowd {
	t.Helper()
	c := play(t, 260, 3, 2)
	c.up(1)
	c.up(0)
	c.round()
	c.round()
	for _, x := range []api.Call{mkdir("/d"), create("/d/x"), write("/d/x", 0, "kept"), syncs()} {
		c.call(0, x)
	}
	c.rounds(9)
	if len(c.deeds) != 4 || c.nodes[0].Record() != 0 {
		t.Fatal("not all is done")
	}
	c.call(0, write("/d/x", 2, "lost"))
	c.call(0, rename("/d/x", "/h"))
	c.call(0, syncs())
	if len(c.deeds) != 6 || c.nodes[0].Record() != 2 {
		t.Fatalf("not all is done: %s", state(c.nodes[0]))
	}
	return c
}

// rounds are some rounds.
func (c *crowd) rounds(many int) {
	c.t.Helper()
	for range many {
		c.round()
	}
}

// T2, P21.6, P21.8: a node falls at any step of its record, whatever of its cache is kept; it is replayed by another one, or by itself under a new incarnation: what the record has is there, whole, or nothing of it; nothing that was synced is lost.
func TestFalls(t *testing.T) {
	first := falls(t)
	many := len(steps(t, first.nodes[0]))
	if many != 6+4+6+3 {
		t.Fatalf("%d steps", many)
	}
	for fell := range many {
		for picks := range 4 {
			for _, own := range []bool{false, true} {
				c := falls(t)
				for range fell {
					c.at(0, (*node.Node).Step)
				}
				what := fmt.Sprintf("%d steps, picks %d, own %v", fell, picks, own)
				c.crash(0)
				if own {
					c.up(0)
				} else {
					c.up(2)
				}
				c.picks = make([]int, 20)
				for i := range c.picks {
					c.picks[i] = []int{0, 1, i, i + 1}[picks]
				}
				c.rounds(9)
				if v := c.view(); len(v.Dead) != 0 || view.Inc(v, 0) == 1 || !view.Open(v) {
					t.Fatalf("%s: the view is %v", what, v)
				}
				mark := 6 + 2 // steps, behind which the mark is in the cache, where it is the only write
				whole := fell > mark+1 || fell == mark+1 && c.picks[0]%2 == 1
				lost := 0
				for _, x := range c.deeds {
					if x.lost {
						lost++
					}
				}
				if want := map[bool]int{true: 0, false: 2}[whole]; lost != want {
					t.Errorf("%s: %d calls are lost, want %d", what, lost, want)
				}
				c.home()
				if t.Failed() {
					t.Fatal(what)
				}
			}
		}
	}
}

// T2: the one that replays falls, too, at any step; the next one replays the same.
func TestReplayerFalls(t *testing.T) {
	for fell := range 9 {
		c := falls(t)
		for range 6 + 4 + 3 {
			c.at(0, (*node.Node).Step)
		}
		c.crash(0)
		c.up(2)
		for range 4 {
			c.at(1, (*node.Node).Tick)
			c.at(2, (*node.Node).Tick)
			c.fence(1, 0, 1, 0)
			for len(c.net.All()) > 0 {
				c.take(0)
			}
		}
		if !c.nodes[1].Busy() || c.nodes[1].Record() != 0 {
			t.Fatalf("there is no job: %s, %v", state(c.nodes[1]), c.view())
		}
		for range fell {
			c.at(1, (*node.Node).Step)
		}
		c.crash(1)
		c.up(0)
		c.picks = []int{0, 1, 0, 1, 0, 1}
		c.home()
		if n := len(c.deeds); n < 6 || c.deeds[4].lost || c.deeds[5].lost {
			t.Errorf("%d steps: something is lost", fell)
		}
	}
}

// R3, R4: what was told stays as it was, whatever is done then, and may be written into; the same events have the same answers.
func TestMemory(t *testing.T) {
	run := func(spoil bool) string {
		b, n := with(t, 260, 3, 0, 1, 2)
		var outs []api.Out
		var told []string
		for i, event := range []func() api.Out{
			func() api.Out { return n.Call(1, create("/d")) }, func() api.Out { return n.Call(2, mkdir("/h")) }, func() api.Out { return n.Tick() },
			func() api.Out { return n.Call(3, readdir("/")) }, func() api.Out { return n.Mail(1, note(api.NoteGrant, 3, 1, api.Share, 1)) }, func() api.Out { return n.Mail(2, note(api.NoteGrant, 3, 2, api.Share, 1)) },
			func() api.Out { return n.Mail(1, note(api.NoteWant, 3, 3, api.Share, 1)) }, func() api.Out { return n.Call(4, readdir("/")) }, func() api.Out { return n.Call(5, syncs()) },
			func() api.Out { b.joins(2); return n.Tick() }, func() api.Out { l := steps(t, n); return l[len(l)-1] }, func() api.Out { return n.Tick() }, func() api.Out { b.d.Takes(); return n.Tick() },
		} {
			o := event()
			told = append(told, show(o))
			outs = append(outs, o)
			for at, o := range outs[:i] {
				if !spoil && show(o) != told[at] {
					t.Errorf("event %d told %s, and tells %s", at, told[at], show(o))
				}
			}
			if spoil {
				ruin(o)
			}
		}
		return strings.Join(append(told, state(n)), "\n")
	}
	first := run(false)
	if again := run(false); again != first {
		t.Errorf("told %s\nand then %s", first, again)
	}
	if spoilt := run(true); spoilt != first {
		t.Errorf("told %s\nand with what was told written into %s", first, spoilt)
	}
	if !strings.Contains(first, "[d h]") || !strings.Contains(first, "+2.1 0") {
		t.Errorf("told %s", first)
	}
}

// ruin writes into all that was told.
func ruin(o api.Out) {
	for i := range o.Mails {
		o.Mails[i] = api.Mail{To: 9, Body: "x"}
	}
	for i := range o.Answers {
		for j := range o.Answers[i].Reply.Names {
			o.Answers[i].Reply.Names[j] = "x"
		}
		o.Answers[i] = api.Answer{ID: 99}
	}
	for i := range o.Done {
		o.Done[i] = 99
	}
	for i := range o.Graves {
		o.Graves[i] = api.Grave{Node: 9}
	}
	slices.Reverse(o.Done)
}
