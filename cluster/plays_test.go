package cluster_test

import (
	"fmt"
	"testing"

	"lockgate/api"
)

// paths are those of drawn calls.
var paths = []string{"/a", "/b", "/c", "/d", "/d", "/e", "/d/x", "/d/y", "/d/a", "/h", "/h", "/", "bad"}

// kinds are the calls that are drawn, some more often than others.
var kinds = []int{api.OpCreate, api.OpCreate, api.OpCreate, api.OpMkdir, api.OpMkdir, api.OpLink, api.OpUnlink, api.OpRename, api.OpRead, api.OpWrite, api.OpWrite, api.OpWrite, api.OpTruncate, api.OpTruncate, api.OpReaddir, api.OpStat, api.OpSync, api.OpStatfs}

// some is a drawn call.
func some(d *draws) api.Call {
	c := api.Call{Op: kinds[d.below(len(kinds))], Path: paths[d.below(len(paths))], To: paths[d.below(len(paths))]}
	switch c.Op {
	case api.OpRead:
		c.At, c.N = d.below(700), d.below(700)
	case api.OpWrite:
		c.At, c.Data = d.below(1600), fmt.Sprint("w", d.below(1000))
	case api.OpTruncate:
		c.N = d.below(1500)
	}
	return c
}

// drawnPicks are picks, of which as many are odd as even, below 0 and above.
func drawnPicks(d *draws) []int {
	l := make([]int, d.below(12))
	for i := range l {
		l[i] = d.below(7) - 3
	}
	return l
}

// broken has a node fall within a record, or power go.
func (s *stage) broken(id int, d *draws) {
	s.t.Helper()
	s.call(id, create(paths[d.below(len(paths))]))
	s.call(id, write("/a", d.below(700), "b"))
	s.round()
	s.ticks()
	s.call(id, syncs())
	s.steps(id, d.below(18))
	if d.below(2) == 0 {
		s.crash(id)
		return
	}
	s.power(drawnPicks(d)...)
}

// silent has nothing happen at a node for some rounds, in which all others go on.
func (s *stage) silent(id int, d *draws) {
	s.t.Helper()
	s.cut = func(node int) bool { return node == id }
	s.picks = drawnPicks(d)
	for range d.below(s.m.limit + 10) {
		s.round()
	}
	s.cut = func(int) bool { return false }
}

// fault is a drawn one.
func (s *stage) fault(d *draws) {
	s.t.Helper()
	id := d.below(s.m.l.Nodes)
	switch d.below(28) {
	case 0, 1:
		s.crash(id)
	case 2, 3, 4, 5, 6, 7, 8, 9, 10:
		s.start(id)
	case 11, 12, 13, 14, 15, 16:
		s.drop(d.below(1000) - 500)
	case 17, 18, 19, 20, 21, 22:
		s.double(d.below(1000) - 500)
	case 23:
		for range 5 { // the others are silent meanwhile
			s.tick(id)
		}
	case 24:
		s.broken(id, d)
	case 25:
		s.silent(id, d)
	case 26:
		if d.below(3) == 0 {
			s.power(drawnPicks(d)...)
		}
	}
}

// chaos are drawn events, with faults as often as faults says, of a hundred.
func (s *stage) chaos(d *draws, events, faults int) {
	s.t.Helper()
	for range events {
		id := d.below(s.m.l.Nodes+1) - d.below(2)
		if d.below(100) < faults {
			s.fault(d)
			continue
		}
		switch d.below(12) {
		case 0, 1:
			s.call(id, some(d))
		case 2:
			s.tick(id)
		case 3, 4, 5:
			s.step(id)
		case 6, 7, 8, 9, 10:
			s.take(d.below(1000) - 500)
		case 11:
			s.fence(drawnPicks(d)...)
		}
	}
}

// plays are of so many sectors and nodes, with such a limit; so many of a hundred events are faults.
type plays struct{ sectors, nodes, limit, faults, many int }

// play is a drawn one. At the end of each part nothing goes wrong any more, till all is done, and kept.
func (of plays) play(t *testing.T, seed int) *stage {
	t.Helper()
	d := draws(seed*977 + of.nodes)
	s := full(t, of.sectors, of.nodes, of.limit)
	if seed%2 == 1 {
		s.first = d.below
	}
	for range 3 {
		s.chaos(&d, 400, of.faults)
		s.home()
	}
	return s
}

// P22.6, T1 to T5: drawn plays, in which messages get lost, come late, or twice, nodes are silent, fall and are started, and power goes.
func TestPlays(t *testing.T) {
	for _, of := range []plays{{120, 1, 3, 10, 15}, {100, 2, 40, 0, 10}, {200, 2, 4, 10, 20}, {260, 3, 40, 0, 10}, {260, 3, 9, 8, 25}, {140, 3, 9, 8, 20}, {400, 5, 9, 8, 6}, {440, 5, 3, 20, 6}} {
		t.Run(fmt.Sprint(of), func(t *testing.T) {
			t.Parallel()
			var all deaths
			room := 0
			for seed := range of.many {
				m := of.play(t, seed).m
				all = deaths{all.graves + m.seen.graves, all.late + m.seen.late, all.whole + m.seen.whole, all.lost + m.seen.lost}
				for _, x := range m.deeds {
					if x.reply.Err == api.ErrFull {
						room++
					}
				}
			}
			t.Logf("%+v, %d times no room", all, room)
			if of.faults > 0 && (all.graves == 0 || all.whole == 0 || all.lost == 0 || of.nodes > 2 && all.late == 0) || of.sectors < 150 && of.nodes > 1 && room == 0 {
				t.Errorf("these plays don't show all that there is: %+v, %d times no room", all, room)
			}
		})
	}
}
