package view_test

import (
	"encoding/binary"
	"fmt"
	"slices"
	"sort"
	"testing"

	"lockgate/api"
)

const most = 1 << 40

// draws are numbers that look like chance, the same at each run.
type draws uint64

func (d *draws) below(n int) int {
	*d = *d*6364136223846793005 + 1442695040888963407
	return int(uint64(*d) >> 33 % uint64(n))
}

// text is all that a view has; a list that is nil is an empty one.
func text(v api.View) string {
	return fmt.Sprint(v.Nodes, " ", v.Epoch, " ", v.Members, v.Dead, v.Incs)
}

// same fails the test, if a view isn't as it should be.
func same(t *testing.T, what string, got, want api.View) {
	t.Helper()
	if g, w := text(got), text(want); g != w {
		t.Fatalf("%s: %s, not %s", what, g, w)
	}
}

// copied is v with lists of its own that have no room behind them.
func copied(v api.View) api.View {
	v.Members = append(make([]api.Member, 0, len(v.Members)), v.Members...)
	v.Dead = append(make([]api.Member, 0, len(v.Dead)), v.Dead...)
	v.Incs = append(make([]int, 0, len(v.Incs)), v.Incs...)
	return v
}

// memberRight tells of a member alone what P6.1 says.
func memberRight(v api.View, m api.Member) bool {
	return m.Node >= 0 && m.Node <= v.Nodes-1 && m.Inc == v.Incs[m.Node] && m.Inc >= 1
}

// deadRight tells of a dead one alone what P6.1 says.
func deadRight(v api.View, d api.Member) bool {
	if d.Node < 0 || d.Node > v.Nodes-1 || d.Inc < 1 || d.Inc > v.Incs[d.Node] || d.Ready {
		return false
	}
	for _, m := range v.Members {
		if m.Node == d.Node && m.Inc == d.Inc {
			return false
		}
	}
	return true
}

// right tells what Check should, by P6.1's words, each one held against all behind it.
func right(v api.View) bool {
	if v.Nodes < 1 || v.Nodes > 8 || v.Epoch < 0 || v.Epoch > most || len(v.Incs) != v.Nodes || len(v.Members) > 8 || len(v.Dead) > 20 {
		return false
	}
	for _, n := range v.Incs {
		if n < 0 || n > most {
			return false
		}
	}
	for i, m := range v.Members {
		for _, o := range v.Members[i+1:] {
			if o.Node <= m.Node {
				return false
			}
		}
		if !memberRight(v, m) {
			return false
		}
	}
	for i, d := range v.Dead {
		for _, o := range v.Dead[i+1:] {
			if o.Node < d.Node || o.Node == d.Node && o.Inc <= d.Inc {
				return false
			}
		}
		if !deadRight(v, d) {
			return false
		}
	}
	return true
}

// written is a view as bytes by P6.2's words, made without the package.
func written(v api.View) string {
	two := func(b []byte, n int) []byte { return binary.BigEndian.AppendUint16(b, uint16(n)) }
	eight := func(b []byte, n int) []byte { return binary.BigEndian.AppendUint64(b, uint64(n)) }
	b := eight(two(nil, v.Nodes), v.Epoch)
	for _, n := range v.Incs {
		b = eight(b, n)
	}
	b = two(b, len(v.Members))
	for _, m := range v.Members {
		ready := 0
		if m.Ready {
			ready = 1
		}
		b = two(eight(two(b, m.Node), m.Inc), ready)
	}
	b = two(b, len(v.Dead))
	for _, d := range v.Dead {
		b = eight(two(b, d.Node), d.Inc)
	}
	return string(b)
}

// bytesLeft are read one by one; once something lacks or may not be, it is broken.
type bytesLeft struct {
	rest   []byte
	broken bool
}

func (p *bytesLeft) number(size, bound int) int {
	if p.broken || len(p.rest) < size {
		p.broken = true
		return 0
	}
	n := uint64(0)
	for _, x := range p.rest[:size] {
		n = n*256 + uint64(x)
	}
	p.rest = p.rest[size:]
	if n > uint64(bound) {
		p.broken = true
		return 0
	}
	return int(n)
}

// parsed is the view whose bytes s is, by P6.2's words.
func parsed(s string) (api.View, bool) {
	p := &bytesLeft{rest: []byte(s)}
	v := api.View{Nodes: p.number(2, 8), Epoch: p.number(8, most)}
	for range v.Nodes {
		v.Incs = append(v.Incs, p.number(8, most))
	}
	for range p.number(2, 8) {
		m := api.Member{Node: p.number(2, 7), Inc: p.number(8, most)}
		m.Ready = p.number(2, 1) == 1
		v.Members = append(v.Members, m)
	}
	for range p.number(2, 20) {
		v.Dead = append(v.Dead, api.Member{Node: p.number(2, 7), Inc: p.number(8, most)})
	}
	if p.broken || len(p.rest) > 0 || !right(v) {
		return api.View{}, false
	}
	return v, true
}

// who is a node that joined for the inc-th time.
type who struct{ node, inc int }

// model is a view as the chapter words it, kept in another way: what stands of each who that there ever was.
type model struct {
	nodes, epoch int
	incs         map[int]int
	is           map[who]string // member, ready or dead
}

func modelOf(v api.View) *model {
	m := &model{nodes: v.Nodes, epoch: v.Epoch, incs: map[int]int{}, is: map[who]string{}}
	for node, n := range v.Incs {
		m.incs[node] = n
	}
	for _, x := range v.Members {
		m.is[who{x.Node, x.Inc}] = map[bool]string{false: "member", true: "ready"}[x.Ready]
	}
	for _, x := range v.Dead {
		m.is[who{x.Node, x.Inc}] = "dead"
	}
	return m
}

// all are those who are one of these.
func (m *model) all(are ...string) []who {
	var l []who
	for w, is := range m.is {
		if slices.Contains(are, is) {
			l = append(l, w)
		}
	}
	sort.Slice(l, func(i, j int) bool {
		return l[i].node < l[j].node || l[i].node == l[j].node && l[i].inc < l[j].inc
	})
	return l
}

func (m *model) members() []who { return m.all("member", "ready") }

// member is the one of that node.
func (m *model) member(node int) (who, bool) {
	for _, w := range m.members() {
		if w.node == node {
			return w, true
		}
	}
	return who{}, false
}

func (m *model) view() api.View {
	v := api.View{Nodes: m.nodes, Epoch: m.epoch}
	for node := range m.nodes {
		v.Incs = append(v.Incs, m.incs[node])
	}
	for _, w := range m.members() {
		v.Members = append(v.Members, api.Member{Node: w.node, Inc: w.inc, Ready: m.is[w] == "ready"})
	}
	for _, w := range m.all("dead") {
		v.Dead = append(v.Dead, api.Member{Node: w.node, Inc: w.inc})
	}
	return v
}

func (m *model) turn() {
	m.epoch++
	for _, w := range m.all("ready") {
		m.is[w] = "member"
	}
}

func (m *model) join(node int) int {
	if node < 0 || node >= m.nodes || m.incs[node] >= most || m.epoch >= most || len(m.all("dead")) >= 20 {
		return 0
	}
	if w, ok := m.member(node); ok {
		m.is[w] = "dead"
	}
	m.incs[node]++
	m.is[who{node, m.incs[node]}] = "member"
	m.turn()
	return m.incs[node]
}

func (m *model) leave(by, node int) bool {
	_, one := m.member(by)
	w, other := m.member(node)
	if !one || !other || by == node || m.epoch >= most || len(m.all("dead")) >= 20 || 2*(len(m.members())-1) <= m.nodes {
		return false
	}
	m.is[w] = "dead"
	m.turn()
	return true
}

func (m *model) ready(node, inc int) bool {
	w := who{node, inc}
	if m.is[w] != "member" {
		return false
	}
	m.is[w] = "ready"
	return true
}

func (m *model) bury(node, inc int) bool {
	w := who{node, inc}
	if m.is[w] != "dead" {
		return false
	}
	delete(m.is, w)
	return true
}

// drawn is a view that may be, as draws have it: of any size, with numbers that are small or near the greatest.
func drawn(d *draws) api.View {
	v := api.View{Nodes: 1 + d.below(8), Epoch: []int{0, 1, 300, most - 1, most}[d.below(5)]}
	for node := range v.Nodes {
		inc := []int{0, 1, 2, 3, 9, most - 1, most}[d.below(7)]
		v.Incs = append(v.Incs, inc)
		in := inc > 0 && d.below(3) > 0
		for i := max(1, inc-d.below(4)); i <= inc; i++ {
			if len(v.Dead) < 20 && d.below(3) > 0 && (i < inc || !in) {
				v.Dead = append(v.Dead, api.Member{Node: node, Inc: i})
			}
		}
		if in {
			v.Members = append(v.Members, api.Member{Node: node, Inc: inc, Ready: d.below(2) == 0})
		}
	}
	return v
}

// full is a view of eight members, all ready, with so many dead.
func full(dead int) api.View {
	v := api.View{Nodes: 8, Epoch: 77}
	for node := range 8 {
		v.Incs = append(v.Incs, 10+node)
		v.Members = append(v.Members, api.Member{Node: node, Inc: 10 + node, Ready: true})
	}
	for i := range dead {
		v.Dead = append(v.Dead, api.Member{Node: i / 3, Inc: 1 + 2*(i%3)})
	}
	return v
}

// sample is a view with members that are ready or not, and dead ones of members and of others.
func sample() api.View {
	return api.View{
		Nodes: 5, Epoch: 300,
		Members: []api.Member{{Node: 0, Inc: 3}, {Node: 2, Inc: 1, Ready: true}, {Node: 3, Inc: 258}},
		Dead:    []api.Member{{Node: 0, Inc: 1}, {Node: 0, Inc: 2}, {Node: 1, Inc: 4}, {Node: 3, Inc: 257}},
		Incs:    []int{3, 4, 1, 258, 0},
	}
}

// views are some that may be, small and great ones.
func views() []api.View {
	d := draws(6)
	l := []api.View{sample(), full(0), full(19), full(20)}
	for n := 1; n <= 8; n++ {
		l = append(l, api.View{Nodes: n, Incs: make([]int, n)})
	}
	for range 60 {
		l = append(l, drawn(&d))
	}
	return l
}

// spoiled are views that may not be, each by one thing that P6.1 names.
func spoiled() map[string]api.View {
	l := map[string]api.View{"zero": {}}
	with := func(what string, change func(v *api.View)) {
		v := copied(sample())
		change(&v)
		l[what] = v
	}
	withFull := func(what string, change func(v *api.View)) {
		v := copied(full(20))
		change(&v)
		l[what] = v
	}
	for _, n := range []int{-1 << 63, -1, 0, 4, 6, 9, 1<<63 - 1} {
		with(fmt.Sprint("Nodes ", n), func(v *api.View) { v.Nodes = n })
	}
	with("no nodes and no Incs", func(v *api.View) { *v = api.View{Incs: []int{}} })
	with("nine nodes", func(v *api.View) { *v = api.View{Nodes: 9, Incs: make([]int, 9)} })
	with("-1 nodes", func(v *api.View) { *v = api.View{Nodes: -1} })
	for _, n := range []int{-1 << 63, -1, most + 1, 1<<63 - 1} {
		with(fmt.Sprint("Epoch ", n), func(v *api.View) { v.Epoch = n })
		with(fmt.Sprint("first of Incs ", n), func(v *api.View) { v.Incs[0], v.Members, v.Dead = n, nil, nil })
		with(fmt.Sprint("last of Incs ", n), func(v *api.View) { v.Incs[4] = n })
		with(fmt.Sprint("first of Incs with its member ", n), func(v *api.View) { v.Incs[0], v.Members[0].Inc, v.Dead = n, n, nil })
	}
	with("no Incs", func(v *api.View) { v.Incs = nil })
	with("no Incs and nobody", func(v *api.View) { v.Incs, v.Members, v.Dead = nil, nil, nil })
	with("Incs too short", func(v *api.View) { v.Incs = v.Incs[:4] })
	with("Incs too long", func(v *api.View) { v.Incs = append(v.Incs, 0) })
	with("members falling", func(v *api.View) { v.Members[0], v.Members[1] = v.Members[1], v.Members[0] })
	with("last members falling", func(v *api.View) { v.Members[1], v.Members[2] = v.Members[2], v.Members[1] })
	with("a member twice", func(v *api.View) { v.Members[1] = v.Members[0] })
	with("the last member twice", func(v *api.View) { v.Members = append(v.Members, v.Members[2]) })
	with("a member twice, apart", func(v *api.View) { v.Members = append(v.Members, v.Members[0]) })
	withFull("nine members", func(v *api.View) { v.Members = append(v.Members, api.Member{Node: 8, Inc: 1}) })
	for _, n := range []int{-1 << 63, -1, 5, 8, 1<<63 - 1} {
		with(fmt.Sprint("a member's node ", n), func(v *api.View) { v.Members = []api.Member{{Node: n, Inc: 1}} })
		with(fmt.Sprint("the last member's node ", n), func(v *api.View) { v.Members[2].Node = n })
		with(fmt.Sprint("a dead one's node ", n), func(v *api.View) { v.Dead = []api.Member{{Node: n, Inc: 1}} })
		with(fmt.Sprint("the last dead one's node ", n), func(v *api.View) { v.Dead[3].Node = n })
	}
	for _, n := range []int{-1 << 63, -1, 0, 1, 2, 4, most, 1<<63 - 1} {
		with(fmt.Sprint("a member's Inc ", n), func(v *api.View) { v.Members[0].Inc, v.Dead = n, nil })
	}
	with("a member that never joined", func(v *api.View) { v.Members = append(v.Members, api.Member{Node: 4}) })
	withFull("21 dead", func(v *api.View) { v.Dead = append(v.Dead, api.Member{Node: 7, Inc: 2}) })
	with("dead falling by nodes", func(v *api.View) { v.Dead[1], v.Dead[2] = v.Dead[2], v.Dead[1] })
	with("dead falling by Incs", func(v *api.View) { v.Dead[0], v.Dead[1] = v.Dead[1], v.Dead[0] })
	with("a dead one twice", func(v *api.View) { v.Dead[1] = v.Dead[0] })
	with("the last dead one twice", func(v *api.View) { v.Dead = append(v.Dead, v.Dead[3]) })
	for _, n := range []int{-1 << 63, -1, 0, 5, most, 1<<63 - 1} {
		with(fmt.Sprint("a dead one's Inc ", n), func(v *api.View) { v.Dead[2].Inc = n })
	}
	with("a dead one that never joined", func(v *api.View) { v.Dead = append(v.Dead, api.Member{Node: 4}) })
	with("the first dead one ready", func(v *api.View) { v.Dead[0].Ready = true })
	with("the last dead one ready", func(v *api.View) { v.Dead[3].Ready = true })
	with("a dead member", func(v *api.View) { v.Dead = []api.Member{{Node: 0, Inc: 3}} })
	with("a dead member that is ready", func(v *api.View) { v.Dead = []api.Member{{Node: 2, Inc: 1}} })
	with("the last member dead", func(v *api.View) { v.Dead[3].Inc = 258 })
	return l
}
