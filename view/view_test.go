package view_test

import (
	"fmt"
	"math"
	"slices"
	"testing"

	"lockgate/api"
	"lockgate/view"
)

// far are numbers at the edges that the chapter names, and far off.
var far = []int{math.MinInt, -most, -9, -1, 0, 1, 2, 3, 4, 5, 6, 7, 8, 9, 10, 257, 258, 65536, most - 1, most, most + 1, math.MaxInt}

// P6.1: what New tells, kept from 1 to 8.
func TestNew(t *testing.T) {
	for _, n := range append([]int{11, 16, 1000, 1 << 32}, far...) {
		kept := 1
		for kept < n && kept < 8 {
			kept++
		}
		v := view.New(n)
		same(t, fmt.Sprintf("New(%d)", n), v, api.View{Nodes: kept, Incs: make([]int, kept)})
		if e := view.Check(v); e != api.OK {
			t.Errorf("Check(New(%d)): %d", n, e)
		}
	}
	a, b := view.New(3), view.New(3)
	a.Incs[1] = 9
	same(t, "New(3) once another one was changed", b, api.View{Nodes: 3, Incs: []int{0, 0, 0}})
}

// P6.1: views that may be.
func TestCheckRight(t *testing.T) {
	edges := []api.View{
		{Nodes: 1, Incs: []int{0}, Members: []api.Member{}, Dead: []api.Member{}},
		{Nodes: 1, Epoch: most, Incs: []int{most}, Members: []api.Member{{Inc: most}}, Dead: []api.Member{{Inc: 1}, {Inc: most - 1}}},
		{Nodes: 1, Epoch: most, Incs: []int{most}, Dead: []api.Member{{Inc: most}}},
		{Nodes: 2, Incs: []int{0, 1}, Dead: []api.Member{{Node: 1, Inc: 1}}},
		{Nodes: 2, Incs: []int{0, 1}, Members: []api.Member{{Node: 1, Inc: 1, Ready: true}}},
		{Nodes: 8, Incs: []int{0, 0, 0, 0, 0, 0, 0, 30}, Dead: dead(7, 20)},
		{Nodes: 8, Incs: []int{0, 0, 0, 0, 0, 0, 0, 30}, Dead: dead(7, 19), Members: []api.Member{{Node: 7, Inc: 30}}},
	}
	for _, v := range append(edges, views()...) {
		if e := view.Check(v); e != api.OK {
			t.Errorf("Check(%s): %d", text(v), e)
		}
	}
}

// dead are so many of a node, by rising Incs.
func dead(node, many int) []api.Member {
	var l []api.Member
	for i := range many {
		l = append(l, api.Member{Node: node, Inc: i + 1})
	}
	return l
}

// P6.1: each thing by which a view may not be.
func TestCheckWrong(t *testing.T) {
	for what, v := range spoiled() {
		if e := view.Check(v); e != api.ErrArg {
			t.Errorf("Check, %s: %d", what, e)
		}
	}
	v := api.View{Nodes: 1, Incs: []int{40}, Dead: dead(0, 21)}
	if e := view.Check(v); e != api.ErrArg {
		t.Errorf("Check of 21 dead: %d", e)
	}
}

// P6.1: views with one or two things drawn anew, held against the chapter's words.
func TestCheckDrawn(t *testing.T) {
	d := draws(61)
	may := 0
	for range 60000 {
		v := copied(drawn(&d))
		for range 1 + d.below(2) {
			spoil(&d, &v)
		}
		want := api.ErrArg
		if right(v) {
			want = api.OK
			may++
		}
		if e := view.Check(v); e != want {
			t.Fatalf("Check(%s): %d, not %d", text(v), e, want)
		}
	}
	if may < 5000 || may > 55000 {
		t.Errorf("only one kind was drawn: %d may be", may)
	}
}

// spoil draws one thing of a view anew.
func spoil(d *draws, v *api.View) {
	l := &v.Members
	if d.below(2) == 0 {
		l = &v.Dead
	}
	var m *api.Member
	if len(*l) > 0 {
		m = &(*l)[d.below(len(*l))]
	}
	switch kind := d.below(8); {
	case kind == 0:
		v.Nodes += d.below(3) - 1
	case kind == 1:
		v.Epoch += d.below(3) - 1
	case kind == 2 && len(v.Incs) > 0:
		v.Incs[d.below(len(v.Incs))] += d.below(3) - 1
	case kind == 3 && m != nil:
		m.Node += d.below(3) - 1
	case kind == 4 && m != nil:
		m.Inc += d.below(3) - 1
	case kind == 5 && m != nil:
		m.Ready = !m.Ready
	case kind == 6 && m != nil:
		(*l)[0], *m = *m, (*l)[0]
	case kind == 7 && m != nil:
		*l = slices.Insert(*l, d.below(len(*l)+1), *m)
	}
}

// P6.3: the examples.
func TestExamples(t *testing.T) {
	v, inc := view.Join(view.New(3), 1)
	same(t, "Join(New(3), 1)", v, api.View{Nodes: 3, Epoch: 1, Members: []api.Member{{Node: 1, Inc: 1}}, Incs: []int{0, 1, 0}})
	if inc != 1 {
		t.Errorf("Join(New(3), 1): Inc %d", inc)
	}
	v, inc = view.Join(v, 1)
	same(t, "Join of that", v, api.View{Nodes: 3, Epoch: 2, Members: []api.Member{{Node: 1, Inc: 2}}, Dead: []api.Member{{Node: 1, Inc: 1}}, Incs: []int{0, 2, 0}})
	if inc != 2 {
		t.Errorf("Join of that: Inc %d", inc)
	}
	v = api.View{Nodes: 3, Epoch: 2, Members: []api.Member{{Node: 0, Inc: 1}, {Node: 1, Inc: 1}}, Incs: []int{1, 1, 0}}
	left, ok := view.Leave(v, 0, 1)
	if same(t, "Leave with two of three", left, v); ok {
		t.Error("Leave with two of three: true")
	}
}

// P6.3: who joins stands at its place, ready is nobody any more, and what it was is dead behind all dead of its node.
func TestJoin(t *testing.T) {
	v, inc := view.Join(sample(), 3)
	want := api.View{
		Nodes: 5, Epoch: 301,
		Members: []api.Member{{Node: 0, Inc: 3}, {Node: 2, Inc: 1}, {Node: 3, Inc: 259}},
		Dead:    []api.Member{{Node: 0, Inc: 1}, {Node: 0, Inc: 2}, {Node: 1, Inc: 4}, {Node: 3, Inc: 257}, {Node: 3, Inc: 258}},
		Incs:    []int{3, 4, 1, 259, 0},
	}
	if same(t, "Join(3)", v, want); inc != 259 {
		t.Errorf("Join(3): %d", inc)
	}
	v, inc = view.Join(v, 0)
	want.Epoch, want.Incs[0], want.Members[0].Inc = 302, 4, 4
	want.Dead = slices.Insert(want.Dead, 2, api.Member{Node: 0, Inc: 3})
	if same(t, "Join(0)", v, want); inc != 4 {
		t.Errorf("Join(0): %d", inc)
	}
	v, inc = view.Join(v, 1)
	want.Epoch, want.Incs[1] = 303, 5
	want.Members = slices.Insert(want.Members, 1, api.Member{Node: 1, Inc: 5})
	if same(t, "Join(1)", v, want); inc != 5 {
		t.Errorf("Join(1): %d", inc)
	}
	v, inc = view.Join(v, 4)
	want.Epoch, want.Incs[4] = 304, 1
	want.Members = append(want.Members, api.Member{Node: 4, Inc: 1})
	if same(t, "Join(4)", v, want); inc != 1 {
		t.Errorf("Join(4): %d", inc)
	}
}

// P6.3: of a member that was ready the dead one isn't.
func TestJoinReady(t *testing.T) {
	for node := range 8 {
		v, inc := view.Join(full(0), node)
		m := modelOf(full(0))
		if want := m.join(node); inc != want || inc != 11+node {
			t.Errorf("Join(%d): %d", node, inc)
		}
		same(t, fmt.Sprintf("Join(%d)", node), v, m.view())
		if v.Dead[0] != (api.Member{Node: node, Inc: 10 + node}) || view.Check(v) != api.OK {
			t.Errorf("Join(%d): dead is %v", node, v.Dead)
		}
	}
}

// P6.3: what Join does at the edges of Epoch, Incs, dead ones and nodes.
func TestJoinEdges(t *testing.T) {
	for _, c := range []struct {
		what   string
		v      api.View
		node   int
		inc    int
		change func(v *api.View)
	}{
		{"Incs just below the bound", sample(), 4, most, func(v *api.View) { v.Incs[4] = most - 1 }},
		{"Incs at the bound", sample(), 4, 0, func(v *api.View) { v.Incs[4] = most }},
		{"another one's Incs at the bound", sample(), 4, 1, func(v *api.View) { v.Incs[1] = most }},
		{"a member's Incs at the bound", sample(), 0, 0, func(v *api.View) { v.Incs[0], v.Members[0].Inc = most, most }},
		{"Epoch just below the bound", sample(), 4, 1, func(v *api.View) { v.Epoch = most - 1 }},
		{"Epoch at the bound", sample(), 4, 0, func(v *api.View) { v.Epoch = most }},
		{"19 dead, a member", full(19), 7, 18, nil},
		{"20 dead, a member", full(20), 7, 0, nil},
		{"19 dead, no member", full(19), 7, 18, func(v *api.View) { v.Members = v.Members[:7] }},
		{"20 dead, no member", full(20), 7, 0, func(v *api.View) { v.Members = v.Members[:7] }},
		{"the first node", sample(), 0, 4, nil},
		{"below the first node", sample(), -1, 0, nil},
		{"the last node", sample(), 4, 1, nil},
		{"at Nodes", sample(), 5, 0, nil},
		{"the last one of eight", full(3), 7, 18, nil},
		{"the ninth", full(3), 8, 0, nil},
	} {
		v := copied(c.v)
		if c.change != nil {
			c.change(&v)
		}
		m := modelOf(v)
		want := m.join(c.node)
		got, inc := view.Join(v, c.node)
		if same(t, c.what, got, m.view()); inc != want || inc != c.inc {
			t.Errorf("%s: Inc %d, not %d", c.what, inc, c.inc)
		}
	}
}

// P6.3: with k of n left one may be put out just if these are more than half.
func TestLeaveHalf(t *testing.T) {
	for n := 1; n <= 8; n++ {
		for members := 0; members <= n; members++ {
			v := view.New(n)
			for node := range members {
				v, _ = view.Join(v, node)
			}
			for by := range n {
				for node := range n {
					m := modelOf(v)
					want := m.leave(by, node)
					got, ok := view.Leave(v, by, node)
					same(t, fmt.Sprintf("%d of %d: Leave(%d, %d)", members, n, by, node), got, m.view())
					may := by != node && by < members && node < members && 2*(members-1) > n
					if ok != want || ok != may {
						t.Errorf("%d of %d: Leave(%d, %d) tells %v", members, n, by, node, ok)
					}
				}
			}
		}
	}
}

// P6.3: who left is dead at its place, and nobody is ready any more.
func TestLeave(t *testing.T) {
	v := full(4) // of node 0 three dead, of node 1 one
	got, ok := view.Leave(v, 7, 0)
	want := full(4)
	want.Epoch, want.Members = 78, want.Members[1:]
	for i := range want.Members {
		want.Members[i].Ready = false
	}
	want.Dead = slices.Insert(want.Dead, 3, api.Member{Node: 0, Inc: 10})
	if same(t, "Leave(7, 0)", got, want); !ok {
		t.Error("Leave(7, 0): false")
	}
	got, ok = view.Leave(got, 1, 7)
	want.Epoch, want.Members = 79, want.Members[:6]
	want.Dead = append(want.Dead, api.Member{Node: 7, Inc: 17})
	if same(t, "Leave(1, 7)", got, want); !ok {
		t.Error("Leave(1, 7): false")
	}
}

// P6.3: what Leave does at the edges of Epoch, dead ones and nodes.
func TestLeaveEdges(t *testing.T) {
	for _, c := range []struct {
		what     string
		dead     int
		epoch    int
		by, node int
		ok       bool
	}{
		{"right", 0, 0, 0, 1, true},
		{"Epoch just below the bound", 0, most - 1, 0, 1, true},
		{"Epoch at the bound", 0, most, 0, 1, false},
		{"19 dead", 19, 5, 3, 7, true},
		{"20 dead", 20, 5, 3, 7, false},
		{"itself", 0, 5, 3, 3, false},
		{"no such node", 0, 5, 3, 8, false},
		{"a node below 0", 0, 5, 3, -1, false},
		{"by no such node", 0, 5, 8, 3, false},
		{"by a node below 0", 0, 5, -1, 3, false},
		{"far off", 0, 5, math.MinInt, math.MaxInt, false},
	} {
		v := full(c.dead)
		v.Epoch = c.epoch
		m := modelOf(v)
		m.leave(c.by, c.node)
		got, ok := view.Leave(v, c.by, c.node)
		if same(t, c.what, got, m.view()); ok != c.ok {
			t.Errorf("%s: Leave tells %v", c.what, ok)
		}
	}
	v := full(0)
	v.Members = slices.Delete(v.Members, 3, 4)
	for _, c := range [][2]int{{0, 3}, {3, 0}, {3, 3}} {
		got, ok := view.Leave(v, c[0], c[1])
		if same(t, "Leave without a member 3", got, v); ok {
			t.Errorf("Leave(%d, %d) without a member 3: true", c[0], c[1])
		}
	}
}

// P6.3: just the member with that node and Inc that isn't ready becomes so; no bound of Epoch or of the dead is asked for.
func TestReady(t *testing.T) {
	for _, v := range views() {
		for node := -1; node <= 8; node++ {
			for _, inc := range []int{-1, 0, 1, 2, 3, 4, 9, 10, 11, 17, 18, 258, most - 1, most, most + 1} {
				m := modelOf(v)
				want := m.ready(node, inc)
				got, ok := view.Ready(v, node, inc)
				same(t, fmt.Sprintf("Ready(%d, %d) of %s", node, inc, text(v)), got, m.view())
				if ok != want {
					t.Errorf("Ready(%d, %d) of %s: %v", node, inc, text(v), ok)
				}
			}
		}
	}
	v := sample()
	v.Epoch = most
	got, ok := view.Ready(v, 3, 258)
	v.Members[2].Ready = true
	if same(t, "Ready(3, 258)", got, v); !ok {
		t.Error("Ready(3, 258): false")
	}
	if got, ok = view.Ready(v, 3, 258); ok {
		t.Errorf("Ready(3, 258) once more: true")
	}
	same(t, "Ready(3, 258) once more", got, v)
}

// P6.3: just the dead one with that node and Inc is dead no more; no bound of Epoch is asked for.
func TestBury(t *testing.T) {
	for _, v := range views() {
		for node := -1; node <= 8; node++ {
			for _, inc := range []int{-1, 0, 1, 2, 3, 4, 5, 6, 9, 10, 257, 258, most - 1, most, most + 1} {
				m := modelOf(v)
				want := m.bury(node, inc)
				got, ok := view.Bury(v, node, inc)
				same(t, fmt.Sprintf("Bury(%d, %d) of %s", node, inc, text(v)), got, m.view())
				if ok != want {
					t.Errorf("Bury(%d, %d) of %s: %v", node, inc, text(v), ok)
				}
			}
		}
	}
	v := full(20)
	v.Epoch = most
	for i, d := range full(20).Dead {
		var ok bool
		if v, ok = view.Bury(v, d.Node, d.Inc); !ok || len(v.Dead) != 19-i || v.Epoch != most {
			t.Errorf("Bury(%d, %d): %v, %d dead left", d.Node, d.Inc, ok, len(v.Dead))
		}
		if _, ok = view.Bury(v, d.Node, d.Inc); ok {
			t.Errorf("Bury(%d, %d) once more: true", d.Node, d.Inc)
		}
	}
	same(t, "all buried", v, func() api.View { v := full(0); v.Epoch = most; return v }())
}

// P6.3: a view that may not be is handed on as it is by all, whatever is asked.
func TestChangesOfWrong(t *testing.T) {
	for what, v := range spoiled() {
		for node := -1; node <= 8; node++ {
			got, inc := view.Join(v, node)
			if same(t, "Join, "+what, got, v); inc != 0 {
				t.Errorf("Join(%d), %s: %d", node, what, inc)
			}
			for other := -1; other <= 8; other++ {
				got, ok := view.Leave(v, node, other)
				if same(t, "Leave, "+what, got, v); ok {
					t.Errorf("Leave(%d, %d), %s: true", node, other, what)
				}
			}
			for _, inc := range []int{-1, 0, 1, 2, 3, 4, 5, 257, 258, most} {
				got, ok := view.Ready(v, node, inc)
				if same(t, "Ready, "+what, got, v); ok {
					t.Errorf("Ready(%d, %d), %s: true", node, inc, what)
				}
				got, ok = view.Bury(v, node, inc)
				if same(t, "Bury, "+what, got, v); ok {
					t.Errorf("Bury(%d, %d), %s: true", node, inc, what)
				}
			}
		}
	}
}

// play does one change to both, and fails the test, if they tell otherwise.
func play(t *testing.T, d *draws, v api.View, m *model) api.View {
	t.Helper()
	node, other := d.below(v.Nodes+1), d.below(v.Nodes)
	what, was := "", text(v)
	var now api.View
	var got, want any
	switch d.below(6) {
	case 0, 1:
		what = fmt.Sprintf("Join(%d)", node)
		now, got = joined(v, node)
		want = m.join(node)
	case 2:
		what = fmt.Sprintf("Leave(%d, %d)", other, node)
		now, got = left(v, other, node)
		want = m.leave(other, node)
	case 3, 4:
		inc := view.Inc(v, other) - d.below(8)/7
		what = fmt.Sprintf("Ready(%d, %d)", other, inc)
		now, got = made(v, other, inc)
		want = m.ready(other, inc)
	case 5:
		w := who{other, 1}
		if l := m.all("dead"); len(l) > 0 {
			w = l[d.below(len(l))]
		}
		w.inc += d.below(8) / 7
		what = fmt.Sprintf("Bury(%d, %d)", w.node, w.inc)
		now, got = buried(v, w.node, w.inc)
		want = m.bury(w.node, w.inc)
	}
	if got != want {
		t.Fatalf("%s of %s tells %v, not %v", what, was, got, want)
	}
	if text(v) != was {
		t.Fatalf("%s of %s has made it %s", what, was, text(v))
	}
	same(t, what+" of "+was, now, m.view())
	if e := view.Check(now); e != api.OK {
		t.Fatalf("Check(%s): %d", text(now), e)
	}
	return now
}

// These tell the second result as anything.
func joined(v api.View, node int) (api.View, any)    { w, x := view.Join(v, node); return w, x }
func left(v api.View, by, node int) (api.View, any)  { w, x := view.Leave(v, by, node); return w, x }
func made(v api.View, node, inc int) (api.View, any) { w, x := view.Ready(v, node, inc); return w, x }
func buried(v api.View, node, inc int) (api.View, any) {
	w, x := view.Bury(v, node, inc)
	return w, x
}

// P6.3: scripts of changes, held against the model; what they tell may be, and comes back from its bytes.
func TestScripts(t *testing.T) {
	for seed := range 240 {
		d := draws(seed)
		v := view.New(1 + seed%8)
		if seed%3 == 2 {
			v = drawn(&d)
		}
		m := modelOf(v)
		for range 150 {
			v = play(t, &d, v, m)
			s, e := view.Bytes(v)
			if e != api.OK || s != written(v) {
				t.Fatalf("Bytes(%s): %x, %d", text(v), s, e)
			}
		}
	}
}

// P6.5: at no time of a script has somebody a key that another one had.
func TestKeysOfOne(t *testing.T) {
	for seed := range 60 {
		d := draws(seed + 1000)
		v := view.New(1 + seed%8)
		m := modelOf(v)
		had := map[int]who{}
		for range 300 {
			v = play(t, &d, v, m)
			now := map[int]int{}
			for _, x := range append(slices.Clone(v.Members), v.Dead...) {
				w, key := who{x.Node, x.Inc}, view.Key(x.Node, x.Inc)
				if other, ok := had[key]; ok && other != w {
					t.Fatalf("%v and %v have key %d", w, other, key)
				}
				had[key] = w
				if now[key]++; now[key] > 1 || key == 0 {
					t.Fatalf("%v has key %d, which another one has in %s", w, key, text(v))
				}
			}
		}
	}
}

// P6.5: whoever joins gets a key that nobody had, dead and buried ones too.
func TestKeysAreNew(t *testing.T) {
	d := draws(65)
	v := view.New(5)
	had := map[int]int{}
	for range 2000 {
		node := d.below(5)
		now, inc := view.Join(v, node)
		key := view.Key(node, inc)
		if had[key]++; had[key] > 1 || key == 0 {
			t.Fatalf("node %d with Inc %d has key %d, which was there", node, inc, key)
		}
		for _, x := range now.Dead {
			now, _ = view.Bury(now, x.Node, x.Inc)
		}
		v = now
	}
}

// P6.5: whoever are the members of two views of so many nodes, if both are Enough, they have one in common.
func TestEnoughMeet(t *testing.T) {
	of := func(n, set int) api.View {
		v := view.New(n)
		for node := range n {
			if set>>node&1 == 1 {
				v, _ = view.Join(v, node)
			}
		}
		return v
	}
	for n := 1; n <= 8; n++ {
		var enough []int
		for set := range 1 << n {
			if view.Enough(of(n, set)) {
				enough = append(enough, set)
			}
		}
		if !slices.Contains(enough, 1<<n-1) || slices.Contains(enough, 0) {
			t.Errorf("of %d nodes all are not Enough, or none are", n)
		}
		for _, a := range enough {
			for _, b := range enough {
				if a&b == 0 {
					t.Fatalf("of %d nodes %b and %b are Enough", n, a, b)
				}
			}
		}
	}
}
