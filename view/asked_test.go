package view_test

import (
	"fmt"
	"slices"
	"testing"

	"lockgate/api"
	"lockgate/view"
)

// P6.4: keys, and 0 for what can't be.
func TestKey(t *testing.T) {
	for _, node := range far {
		for _, inc := range far {
			want := 0
			if node >= 0 && node <= 7 && inc >= 1 && inc <= most {
				want = inc*8 + node + 1
			}
			if got := view.Key(node, inc); got != want {
				t.Errorf("Key(%d, %d): %d, not %d", node, inc, got, want)
			}
		}
	}
	for _, c := range [][3]int{{0, 1, 9}, {7, 1, 16}, {0, 2, 17}, {7, most, 8<<40 + 8}, {8, 1, 0}, {-1, 1, 0}, {0, 0, 0}, {0, most + 1, 0}} {
		if got := view.Key(c[0], c[1]); got != c[2] {
			t.Errorf("Key(%d, %d): %d, not %d", c[0], c[1], got, c[2])
		}
	}
	had := map[int]int{}
	for node := range 8 {
		for inc := 1; inc <= 500; inc++ {
			if had[view.Key(node, inc)]++; had[view.Key(node, inc)] > 1 {
				t.Fatalf("Key(%d, %d) is another one's, too", node, inc)
			}
		}
	}
}

// asked holds what is asked of a view against the chapter's words.
func asked(t *testing.T, v api.View) {
	t.Helper()
	for _, node := range far {
		want := 0
		for _, m := range slices.Backward(v.Members) {
			if m.Node == node {
				want = m.Inc // that of the first one stays
			}
		}
		if got := view.Inc(v, node); got != want {
			t.Fatalf("Inc(%s, %d): %d, not %d", text(v), node, got, want)
		}
	}
	chief, ready := -1, true
	for i, m := range v.Members {
		if i == 0 || m.Node < chief {
			chief = m.Node
		}
		ready = ready && m.Ready
	}
	if got := view.Chief(v); got != chief {
		t.Fatalf("Chief(%s): %d, not %d", text(v), got, chief)
	}
	enough := len(v.Members)*2 > v.Nodes
	if got := view.Enough(v); got != enough {
		t.Fatalf("Enough(%s): %v", text(v), got)
	}
	if got := view.Open(v); got != (enough && ready && len(v.Dead) == 0) {
		t.Fatalf("Open(%s): %v", text(v), got)
	}
}

// P6.4: what is asked of views that may be, and of others.
func TestAsked(t *testing.T) {
	for _, v := range views() {
		asked(t, v)
	}
	for _, v := range spoiled() {
		asked(t, v)
	}
	d := draws(64)
	for range 5000 {
		v := copied(drawn(&d))
		asked(t, v)
		spoil(&d, &v)
		asked(t, v)
		v.Dead = nil
		for i := range v.Members {
			v.Members[i].Ready = v.Members[i].Ready || d.below(3) > 0
		}
		asked(t, v)
	}
}

// P6.4: of a node that stands there twice, and of members in any order.
func TestAskedOfWrong(t *testing.T) {
	v := api.View{Nodes: 3, Members: []api.Member{{Node: 2, Inc: 5}, {Node: 1, Inc: 7}, {Node: 2, Inc: 9}, {Node: 1, Inc: 4}}}
	for node, want := range []int{0, 7, 5, 0} {
		if got := view.Inc(v, node); got != want {
			t.Errorf("Inc(%d): %d, not %d", node, got, want)
		}
	}
	if got := view.Chief(v); got != 1 {
		t.Errorf("Chief: %d, not 1", got)
	}
	asked(t, api.View{})
	asked(t, api.View{Nodes: -1})
	asked(t, api.View{Nodes: -1 << 63, Dead: []api.Member{{}}})
	asked(t, api.View{Nodes: 1<<63 - 1, Members: []api.Member{{Node: -1 << 63, Ready: true}, {Node: 1<<63 - 1, Ready: true}}})
}

// P6.4: Enough and Open by how many there are of how many, who is ready, and who is dead.
func TestOpen(t *testing.T) {
	for n := 1; n <= 8; n++ {
		v := view.New(n)
		if view.Enough(v) || view.Open(v) || view.Chief(v) != -1 {
			t.Errorf("nobody of %d is enough, or open, or has a chief", n)
		}
		for node := n - 1; node >= 0; node-- {
			v, _ = view.Join(v, node)
			members := n - node
			if got := view.Enough(v); got != (members*2 > n) {
				t.Errorf("%d of %d: Enough tells %v", members, n, got)
			}
			if view.Chief(v) != node || view.Open(v) {
				t.Errorf("%d of %d: Chief %d, Open %v, though nobody is ready", members, n, view.Chief(v), view.Open(v))
			}
		}
	}
	for missing := -1; missing < 8; missing++ {
		v, _ := view.Join(full(0), 3)
		v, _ = view.Bury(v, 3, 13)
		for node := range 8 {
			if node != missing {
				v, _ = view.Ready(v, node, view.Inc(v, node))
			}
		}
		if got := view.Open(v); got != (missing == -1) {
			t.Errorf("Open tells %v, and %d is not ready", got, missing)
		}
	}
	if view.Open(full(1)) || !view.Open(full(0)) {
		t.Error("Open with one dead, or not with none")
	}
	v := full(0)
	for left := 8; left >= 0; left-- {
		v.Members = v.Members[:left]
		if got := view.Open(v); got != (left > 4) {
			t.Errorf("%d of 8, all ready: Open tells %v", left, got)
		}
	}
}

// roomy is v with lists that have room behind them, in which something lies.
func roomy(v api.View) api.View {
	m := api.Member{Node: 77, Inc: 78, Ready: true}
	v.Members = append(slices.Clone(v.Members), m, m, m)[:len(v.Members)]
	v.Dead = append(slices.Clone(v.Dead), m, m, m)[:len(v.Dead)]
	v.Incs = append(slices.Clone(v.Incs), 79, 79, 79)[:len(v.Incs)]
	return v
}

// whole is v with all that lies in its lists up to their capacity.
func whole(v api.View) api.View {
	v.Members, v.Dead, v.Incs = v.Members[:cap(v.Members)], v.Dead[:cap(v.Dead)], v.Incs[:cap(v.Incs)]
	return v
}

// scribble writes over all of v's lists, up to their capacity.
func scribble(v api.View) {
	v = whole(v)
	for _, l := range [][]api.Member{v.Members, v.Dead} {
		for i := range l {
			l[i] = api.Member{Node: -5, Inc: -6, Ready: true}
		}
	}
	for i := range v.Incs {
		v.Incs[i] = -7
	}
}

// calls are all that tell a view of another one, by what they are asked.
func calls() map[string]func(v api.View) api.View {
	l := map[string]func(v api.View) api.View{}
	for node := -1; node <= 8; node++ {
		l[fmt.Sprintf("Join(%d)", node)] = func(v api.View) api.View { w, _ := view.Join(v, node); return w }
		for _, by := range []int{0, 1, 7} {
			l[fmt.Sprintf("Leave(%d, %d)", by, node)] = func(v api.View) api.View { w, _ := view.Leave(v, by, node); return w }
		}
		for _, inc := range []int{0, 1, 3, 5, 10 + node, 258} {
			l[fmt.Sprintf("Ready(%d, %d)", node, inc)] = func(v api.View) api.View { w, _ := view.Ready(v, node, inc); return w }
			l[fmt.Sprintf("Bury(%d, %d)", node, inc)] = func(v api.View) api.View { w, _ := view.Bury(v, node, inc); return w }
		}
	}
	return l
}

// some are views of which many calls are done, and many are not; also such as may not be.
func some() []api.View {
	notReady := full(4)
	for i := range notReady.Members {
		notReady.Members[i].Ready = i%2 == 0
	}
	return []api.View{view.New(1), view.New(8), sample(), full(0), full(4), full(19), full(20), notReady, {}, spoiled()["Incs too long"], spoiled()["a dead one twice"], spoiled()["21 dead"]}
}

// R3: what is handed in stays as it was, up to its lists' capacity; what is told is apart from it, and one list from the others.
func TestOwners(t *testing.T) {
	for _, v := range some() {
		for what, call := range calls() {
			in := roomy(v)
			was := text(whole(in))
			out := call(in)
			if got := text(whole(in)); got != was {
				t.Fatalf("%s has made %s of %s", what, got, was)
			}
			told := text(out)
			scribble(out)
			if got := text(whole(in)); got != was {
				t.Fatalf("%s: its owner's writing has made %s of %s", what, got, was)
			}
			out = call(in)
			same(t, what+" once more", copied(out), call(v))
			scribble(in)
			if got := text(out); got != told {
				t.Fatalf("%s: what was told has become %s, which was %s", what, got, told)
			}
		}
	}
}

// R3: no two lists of what is told lie in one memory, and adding to one changes no view told earlier or later.
func TestListsApart(t *testing.T) {
	for _, v := range some() {
		for what, call := range calls() {
			out := call(roomy(v))
			told := text(out)
			for i := range out.Members[:cap(out.Members)] {
				out.Members[:cap(out.Members)][i].Node = -5
			}
			apart := out
			apart.Members = call(roomy(v)).Members
			if got := text(apart); got != told {
				t.Fatalf("%s: with other members it is %s, not %s", what, got, told)
			}
		}
	}
	v, _ := view.Join(view.New(8), 0)
	a, _ := view.Join(v, 1)
	b, _ := view.Join(v, 2)
	_ = append(a.Members, api.Member{Node: 6})
	_ = append(v.Members, api.Member{Node: 7})
	_ = append(v.Dead, api.Member{Node: 7})
	want := api.View{Nodes: 8, Epoch: 2, Members: []api.Member{{Node: 0, Inc: 1}, {Node: 1, Inc: 1}}, Incs: []int{1, 1, 0, 0, 0, 0, 0, 0}}
	same(t, "the first one of two", a, want)
	want.Members[1].Node, want.Incs = 2, []int{1, 0, 1, 0, 0, 0, 0, 0}
	same(t, "the second one of two", b, want)
}

// R3: the calls that tell no view leave what is handed in as it was, too.
func TestAskedStays(t *testing.T) {
	for _, v := range some() {
		in := roomy(v)
		was := text(whole(in))
		view.Check(in)
		view.Bytes(in)
		view.Inc(in, 2)
		view.Chief(in)
		view.Enough(in)
		view.Open(in)
		if got := text(whole(in)); got != was {
			t.Fatalf("%s has become %s", was, got)
		}
	}
}

// R4: a view's list may lie in the same memory as another one's, and have any room: the same is told.
func TestSharedIn(t *testing.T) {
	d := draws(44)
	for range 300 {
		v := drawn(&d)
		both := append(slices.Clone(v.Members), v.Dead...)
		in := v
		in.Members, in.Dead = both[:len(v.Members)], both[len(v.Members):]
		was := text(in)
		for what, call := range calls() {
			same(t, what, call(in), call(copied(v)))
			if text(in) != was {
				t.Fatalf("%s has made %s of %s", what, text(in), was)
			}
		}
	}
}

// P1: all calls end at lists and numbers of any size.
func TestLong(t *testing.T) {
	long := make([]api.Member, 1<<17)
	for i := range long {
		long[i] = api.Member{Node: i, Inc: 1}
	}
	incs := slices.Repeat([]int{1}, 1<<17)
	for _, v := range []api.View{
		{Nodes: 1 << 17, Members: long, Dead: long, Incs: incs},
		{Nodes: 8, Members: long, Dead: long, Incs: incs[:8]},
		{Nodes: 8, Dead: long, Incs: incs[:8]},
		{Nodes: 8, Incs: incs},
		{Nodes: -1, Epoch: -1, Members: long[5:]},
	} {
		if e := view.Check(v); e != api.ErrArg {
			t.Errorf("Check tells %d", e)
		}
		if s, e := view.Bytes(v); s != "" || e != api.ErrArg {
			t.Errorf("Bytes tells %d bytes, %d", len(s), e)
		}
		for _, n := range far {
			a, inc := view.Join(v, n)
			b, left := view.Leave(v, n, 5)
			c, ready := view.Ready(v, n, 1)
			d, buried := view.Bury(v, 5, n)
			if inc != 0 || left || ready || buried {
				t.Errorf("with %d: %d, %v, %v, %v", n, inc, left, ready, buried)
			}
			for _, w := range []api.View{a, b, c, d} {
				if w.Nodes != v.Nodes || w.Epoch != v.Epoch || !slices.Equal(w.Members, v.Members) || !slices.Equal(w.Dead, v.Dead) || !slices.Equal(w.Incs, v.Incs) {
					t.Errorf("with %d: it is not handed on as it is", n)
				}
			}
		}
		view.Chief(v)
		view.Open(v)
	}
	for _, v := range append(some(), views()...) {
		for _, n := range far {
			for _, k := range far {
				view.Leave(v, n, k)
				view.Ready(v, n, k)
				view.Bury(v, n, k)
			}
			view.Join(v, n)
		}
	}
}
