package cluster_test

import (
	"fmt"
	"math"
	"slices"
	"strings"
	"testing"

	"lockgate/api"
	"lockgate/cluster"
	"lockgate/layout"
	"lockgate/ops"
)

// P22.1: New tells what layout.New does; of a layout that may not be there is no cluster.
func TestNew(t *testing.T) {
	sectors := []int{math.MinInt, -1, 0, 1, 41, 42, 53, 54, 55, 93, 94, 173, 174, 200, 333, 334, 400, 65535, 65536, 65537, math.MaxInt}
	nodes := []int{math.MinInt, -1, 0, 1, 2, 3, 4, 5, 6, 7, 8, 9, math.MaxInt}
	for _, n := range sectors {
		for _, k := range nodes {
			for _, limit := range []int{math.MinInt, 0, 1, math.MaxInt} {
				c, e := cluster.New(n, k, limit)
				l, want := layout.New(n, k)
				if e != want || (c != nil) != (want == api.OK) || c.Layout() != l {
					t.Errorf("New(%d, %d, %d): told %v, %v, want %v, %v", n, k, limit, c.Layout(), e, l, want)
				}
			}
		}
	}
}

// P22.1: behind New nobody is up, nothing waits, and nothing was told.
func TestNewEmpty(t *testing.T) {
	c, _ := cluster.New(260, 3, 9)
	for id := -1; id <= 8; id++ {
		if c.Node(id) != nil || c.Tick(id) || c.Step(id) || c.Crash(id) || c.Call(id, create("/a")) != 0 {
			t.Errorf("node %d is up", id)
		}
	}
	if c.Waits() != 0 || c.Pending() != 0 || len(c.Answers()) != 0 || len(c.Events()) != 0 || c.Take(0) || c.Fence(1) {
		t.Error("something waits")
	}
}

// P22.1, P22.5: on the disk behind New lies what ops.Format tells, and else bytes 0; there are as many sectors as New was told.
func TestFormat(t *testing.T) {
	for _, of := range [][2]int{{54, 1}, {200, 1}, {200, 3}, {261, 3}, {400, 5}, {65536, 8}} {
		c, _ := cluster.New(of[0], of[1], 9)
		row, _ := ops.Format(c.Layout())
		want := slices.Repeat([]string{strings.Repeat("\x00", 512)}, of[0])
		for _, x := range row {
			want[x.Sector] = x.S
		}
		for sector, s := range want {
			if c.Peek(sector) != s {
				t.Errorf("%v: sector %d is not as it should be", of, sector)
			}
		}
		for _, sector := range []int{math.MinInt, -1, of[0], of[0] + 1, math.MaxInt} {
			if c.Peek(sector) != "" {
				t.Errorf("%v: something lies in sector %d", of, sector)
			}
		}
	}
}

// P22.1: Start tells ErrArg of nodes that there aren't, ErrState of one that is up; a node is up behind it, as another incarnation each time.
func TestStart(t *testing.T) {
	for nodes := 1; nodes <= 8; nodes++ {
		s := on(t, 400, nodes, 9)
		for _, id := range []int{math.MinInt, -9, -1, nodes, nodes + 1, 8, 9, math.MaxInt} {
			if e := s.start(id); e != api.ErrArg {
				t.Errorf("of %d nodes %d: told %v", nodes, id, e)
			}
		}
		for id := nodes - 1; id >= 0; id-- {
			for inc := 1; inc < 4; inc++ {
				if e := s.start(id); e != api.OK || s.c.Node(id).Inc() != inc || s.c.Node(id).Epoch() != 0 {
					t.Errorf("of %d nodes %d: told %v", nodes, id, e)
				}
				if e := s.start(id); e != api.ErrState || s.c.Node(id).Inc() != inc {
					t.Errorf("of %d nodes %d, once more: told %v", nodes, id, e)
				}
				if inc < 3 {
					s.crash(id)
				}
			}
		}
	}
}

// P22.1: each start has a probe that was not there yet, also one that tells an error: with 20 dead it is ErrFull, however often; once some are buried, nodes start again.
func TestStartAgain(t *testing.T) {
	s := on(t, 200, 2, 9)
	for k := range 21 {
		if e := s.start(1); e != api.OK {
			t.Fatalf("start %d: told %v", k, e)
		}
		s.crash(1)
	}
	if v := s.view(); len(v.Dead) != 20 || len(v.Members) != 1 {
		t.Fatalf("the view is %v", v)
	}
	for range 30 {
		for id := range 2 {
			if e := s.start(id); e != api.ErrFull || s.c.Node(id) != nil {
				t.Fatalf("told %v", e)
			}
		}
	}
	if n := s.call(1, create("/a")); n != 0 {
		t.Errorf("a call has the number %d", n)
	}
}

// P22.1: once dead ones are buried there is room for others.
func TestStartBehindBurials(t *testing.T) {
	s := on(t, 200, 1, 9)
	for inc := 1; inc < 60; inc++ {
		if e := s.start(0); e != api.OK || s.c.Node(0).Inc() != inc {
			t.Fatalf("start %d: told %v", inc, e)
		}
		if inc%20 == 0 {
			s.rest()
		}
		s.crash(0)
	}
}

// P22.1: the limit is that of the nodes' pulses: so many ticks behind its last word a silent one is put out.
func TestLimit(t *testing.T) {
	for _, limit := range []int{2, 3, 5, 9, 30} {
		s := ends(t, 260, 3, limit)
		for range 2 {
			s.ticks()
		}
		s.cut = func(node int) bool { return node == 2 }
		for k := 1; k <= limit; k++ {
			if n := len(s.view().Members); n != 3 {
				t.Fatalf("with limit %d, %d are left behind %d ticks", limit, n, k-1)
			}
			s.ticks()
		}
		if n := len(s.view().Members); n != 2 {
			t.Errorf("with limit %d, %d are left behind so many ticks", limit, n)
		}
	}
}

// P22.1: nodes start in any order; each start makes another view.
func TestStartInAnyOrder(t *testing.T) {
	for k, order := range [][]int{{0, 1, 2}, {2, 1, 0}, {1, 2, 0}, {2, 0, 1}} {
		s := on(t, 260, 3, 9)
		for i, id := range order {
			s.start(id)
			v := s.view()
			if len(v.Members) != i+1 || v.Epoch != i+1 || v.Nodes != 3 {
				t.Errorf("behind %v: the view is %v", order[:i+1], v)
			}
		}
		number := s.call(order[k%3], create("/a"))
		s.rest()
		if r, ok := s.reply(number); !ok || r.Err != api.OK {
			t.Errorf("started as %s: told %v", fmt.Sprint(order), r)
		}
	}
}
