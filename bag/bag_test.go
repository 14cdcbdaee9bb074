package bag_test

import (
	"fmt"
	"math"
	"slices"
	"sort"
	"strconv"
	"strings"
	"testing"

	"lockgate/api"
	"lockgate/bag"
)

// draws are numbers that look like chance, the same at each run.
type draws uint64

func (d *draws) below(n int) int {
	*d = *d*6364136223846793005 + 1442695040888963407
	return int(uint64(*d) >> 33 % uint64(n))
}

// model is a network as the chapter words it, kept in another way: all messages stand in one list, in the order in which they began to wait.
type model struct{ rows []api.Parcel }

// on are the places in rows of those that wait on a link.
func (m *model) on(from, to int) []int {
	var l []int
	for i, r := range m.rows {
		if r.From == from && r.To == to {
			l = append(l, i)
		}
	}
	return l
}

// all are the places in rows of all that wait, in the order of All.
func (m *model) all() []int {
	l := make([]int, len(m.rows))
	for i := range l {
		l[i] = i
	}
	sort.SliceStable(l, func(i, j int) bool {
		a, b := m.rows[l[i]], m.rows[l[j]]
		return a.From*100+a.To < b.From*100+b.To
	})
	return l
}

// one is the one of l that which says, -1 if there is none.
func one(l []int, which int) int {
	if len(l) == 0 {
		return -1
	}
	place := uint64(which)
	if which < 0 {
		place = ^place
	}
	return l[place%uint64(len(l))]
}

func (m *model) send(from, to int, body string) bool {
	right := from != to && from >= 0 && from <= 7 && to >= 0 && to <= 7
	if !right || len(body) > 2000 || len(m.on(from, to)) >= 200 {
		return false
	}
	m.rows = append(m.rows, api.Parcel{From: from, To: to, Body: body})
	return true
}

// out takes the one at i out.
func (m *model) out(i int) (api.Parcel, bool) {
	if i < 0 {
		return api.Parcel{}, false
	}
	p := m.rows[i]
	m.rows = append(m.rows[:i:i], m.rows[i+1:]...)
	return p, true
}

func (m *model) double(from, to, which int) bool {
	i := one(m.on(from, to), which)
	return i >= 0 && m.send(from, to, m.rows[i].Body)
}

func (m *model) void(node int) int {
	var rest []api.Parcel
	for _, r := range m.rows {
		if r.From != node && r.To != node {
			rest = append(rest, r)
		}
	}
	n := len(m.rows) - len(rest)
	m.rows = rest
	return n
}

func (m *model) list() []api.Parcel {
	var l []api.Parcel
	for _, i := range m.all() {
		l = append(l, m.rows[i])
	}
	return l
}

// same fails the test, if the network isn't as the model is.
func same(t *testing.T, n *bag.Net, m *model) {
	t.Helper()
	if got, want := n.All(), m.list(); !slices.Equal(got, want) {
		t.Fatalf("All tells %v, not %v", got, want)
	}
	for from := -1; from <= 8; from++ {
		for to := -1; to <= 8; to++ {
			if got, want := n.Waits(from, to), len(m.on(from, to)); got != want {
				t.Fatalf("Waits(%d, %d) tells %d, not %d", from, to, got, want)
			}
		}
	}
}

// whichs are those which the chapter might take wrong, of k things.
func whichs(k int) []int {
	return []int{0, 1, k - 1, k, k + 1, 2*k - 1, 2 * k, -1, -2, -k, -k - 1, -k - 2, -2 * k, math.MaxInt, math.MaxInt - 1, math.MinInt, math.MinInt + 1, 1 << 32, -1 << 32}
}

// bodies is a network with those messages on a link.
func bodies(from, to int, l ...string) *bag.Net {
	n := bag.New()
	for _, s := range l {
		n.Send(from, to, s)
	}
	return n
}

// The chapter's examples.
func TestExamples(t *testing.T) {
	n := bag.New()
	if !n.Send(1, 2, "a") || !n.Send(1, 2, "b") {
		t.Error("not sent")
	}
	if s, ok := n.Take(1, 2, 1); s != "b" || !ok {
		t.Errorf("Take tells %q, %v", s, ok)
	}
	if !n.Double(1, 2, 0) || n.Waits(1, 2) != 2 {
		t.Error("not doubled")
	}
	if p, ok := n.Any(1); p != (api.Parcel{From: 1, To: 2, Body: "a"}) || !ok {
		t.Errorf("Any tells %v, %v", p, ok)
	}
	if n.Send(1, 1, "") || n.Waits(1, 1) != 0 || n.Waits(1, 2) != 1 {
		t.Error("sent to itself")
	}
}

// P5.1: links are from nodes 0 to 7 to other ones.
func TestSendLinks(t *testing.T) {
	nodes := []int{math.MinInt, math.MinInt + 1, -8, -2, -1, 0, 1, 2, 3, 4, 5, 6, 7, 8, 9, 15, 64, 1 << 32, 1<<32 + 1, 1 << 61, math.MaxInt}
	for _, from := range nodes {
		for _, to := range nodes {
			n, m := bag.New(), &model{}
			if got, want := n.Send(from, to, "x"), m.send(from, to, "x"); got != want {
				t.Errorf("Send(%d, %d) tells %v", from, to, got)
			}
			if got, want := n.Waits(from, to), len(m.rows); got != want {
				t.Errorf("Waits(%d, %d) tells %d", from, to, got)
			}
			same(t, n, m)
		}
	}
}

// P5.1: bodies have up to 2000 bytes, of all kinds, and R5: those above are refused, however long.
func TestSendBodies(t *testing.T) {
	kinds := []string{"", "\x00", "\xff\xfe", "ä", "a\nb", strings.Repeat("\x80", 2000)}
	for i, s := range kinds {
		n := bodies(3, 4, s)
		if got, ok := n.Take(3, 4, 0); got != s || !ok {
			t.Errorf("body %d came as %q, %v", i, got, ok)
		}
	}
	for _, long := range []int{1, 1999, 2000, 2001, 2002, 4000, 65536, 1 << 24} {
		s := strings.Repeat("ab", long)[:long]
		n := bag.New()
		if got := n.Send(7, 0, s); got != (long <= 2000) {
			t.Errorf("Send of %d bytes tells %v", long, got)
		}
		want := []api.Parcel{}
		if long <= 2000 {
			want = append(want, api.Parcel{From: 7, To: 0, Body: s})
		}
		if got := n.All(); !slices.Equal(got, want) {
			t.Errorf("of %d bytes there wait %d messages", long, len(got))
		}
	}
	if wide := strings.Repeat("ä", 1001); bag.New().Send(0, 1, wide) {
		t.Error("1001 runes of 2 bytes were sent")
	}
}

// full is a network with so many messages on the link, numbered, and one on each link that might be taken for it.
func full(from, to, many int) (*bag.Net, *model) {
	n, m := bag.New(), &model{}
	for i := range many {
		n.Send(from, to, strconv.Itoa(i))
		m.send(from, to, strconv.Itoa(i))
	}
	for _, l := range [][2]int{{to, from}, {from, 7 - from}, {7 - to, to}} {
		n.Send(l[0], l[1], "other")
		m.send(l[0], l[1], "other")
	}
	return n, m
}

// P5.1: 200 messages wait on a link at most; another link has its own.
func TestSendFull(t *testing.T) {
	for _, many := range []int{198, 199, 200, 201, 250} {
		n, m := full(2, 6, many)
		same(t, n, m)
		for _, s := range []string{"p", "q"} {
			if got, want := n.Send(2, 6, s), m.send(2, 6, s); got != want {
				t.Errorf("Send on a link with %d tells %v", many, got)
			}
			same(t, n, m)
		}
		if n.Waits(2, 6) > 200 || !n.Send(6, 2, "r") || !n.Send(2, 5, "s") {
			t.Errorf("of %d sent there wait %d", many, n.Waits(2, 6))
		}
	}
	n, m := full(2, 6, 200)
	n.Take(2, 6, 100)
	m.out(one(m.on(2, 6), 100))
	if !n.Send(2, 6, "room") || !m.send(2, 6, "room") || n.Send(2, 6, "none") {
		t.Error("a message that was taken leaves no room for just one")
	}
	same(t, n, m)
}

// P5.1: All tells by rising from, then to, then in the order in which they wait, whatever the order in which they were sent.
func TestAll(t *testing.T) {
	n := bag.New()
	if len(n.All()) != 0 {
		t.Error("a new one has messages")
	}
	var want []api.Parcel
	for from := range 8 {
		for to := range 8 {
			for i := 0; i < 3 && from != to; i++ {
				want = append(want, api.Parcel{From: from, To: to, Body: fmt.Sprint("z"[i/2:], from, to, 9-i)})
			}
		}
	}
	for i := range 3 {
		for from := 7; from >= 0; from-- {
			for to := 7; to >= 0; to-- {
				if from != to {
					n.Send(from, to, fmt.Sprint("z"[i/2:], from, to, 9-i))
				}
			}
		}
	}
	if got := n.All(); !slices.Equal(got, want) || len(want) != 168 {
		t.Errorf("All tells %v", got)
	}
}

// P5.2: Take and Drop take just the one which is meant out; the others wait on in their order.
func TestWhich(t *testing.T) {
	for k := 1; k <= 9; k++ {
		for _, which := range whichs(k) {
			n, m := full(5, 1, k)
			want, _ := m.out(one(m.on(5, 1), which))
			if got, ok := n.Take(5, 1, which); got != want.Body || !ok {
				t.Errorf("Take %d of %d tells %q, %v", which, k, got, ok)
			}
			same(t, n, m)
			n, m = full(5, 1, k)
			m.out(one(m.on(5, 1), which))
			if !n.Drop(5, 1, which) {
				t.Errorf("Drop %d of %d tells false", which, k)
			}
			same(t, n, m)
			n, m = full(5, 1, k)
			if m.double(5, 1, which); !n.Double(5, 1, which) {
				t.Errorf("Double %d of %d tells false", which, k)
			}
			same(t, n, m)
		}
	}
}

// P5.2: which below 0 counts as -(which + 1): worked out by hand.
func TestWhichByHand(t *testing.T) {
	for which, want := range map[int]string{0: "a", 1: "b", 2: "c", 3: "a", 4: "b", 5: "c", -1: "a", -2: "b", -3: "c", -4: "a", -5: "b", math.MaxInt: "b", math.MinInt: "b", math.MaxInt - 1: "a", math.MinInt + 1: "a"} {
		if got, ok := bodies(0, 7, "a", "b", "c").Take(0, 7, which); got != want || !ok {
			t.Errorf("Take %d tells %q, %v", which, got, ok)
		}
		if got, ok := bodies(0, 7, "a", "b", "c").Any(which); got.Body != want || !ok {
			t.Errorf("Any %d tells %v, %v", which, got, ok)
		}
	}
}

// P5.2: Any is that one of All, over all links.
func TestAny(t *testing.T) {
	build := func() (*bag.Net, *model) {
		n, m := bag.New(), &model{}
		d := draws(4)
		for i := range 40 {
			from, to := d.below(8), d.below(8)
			n.Send(from, to, strconv.Itoa(i))
			m.send(from, to, strconv.Itoa(i))
		}
		return n, m
	}
	_, m := build()
	k := len(m.rows)
	places := whichs(k)
	for i := -2 * k; i < 2*k; i++ {
		places = append(places, i)
	}
	for _, which := range places {
		n, m := build()
		want, _ := m.out(one(m.all(), which))
		if got, ok := n.Any(which); got != want || !ok {
			t.Errorf("Any(%d) of %d tells %v, %v, not %v", which, k, got, ok, want)
		}
		same(t, n, m)
	}
}

// P5.2: what isn't there isn't taken, lost or doubled, and nothing changes.
func TestNone(t *testing.T) {
	n, m := bag.New(), &model{}
	for _, which := range whichs(1) {
		if p, ok := n.Any(which); ok || p != (api.Parcel{}) {
			t.Errorf("Any(%d) of nothing tells %v, %v", which, p, ok)
		}
	}
	for _, filled := range []bool{false, true} {
		if filled {
			n, m = full(1, 2, 3)
		}
		for _, l := range [][2]int{{1, 1}, {3, 3}, {3, 5}, {-1, 2}, {1, -1}, {8, 2}, {1, 8}, {0, 10}, {2, -6}, {math.MinInt, 2}, {1, math.MaxInt}, {math.MaxInt, math.MinInt}} {
			for _, which := range whichs(3) {
				if s, ok := n.Take(l[0], l[1], which); ok || s != "" {
					t.Errorf("Take(%d, %d, %d) tells %q, %v", l[0], l[1], which, s, ok)
				}
				if n.Drop(l[0], l[1], which) || n.Double(l[0], l[1], which) {
					t.Errorf("Drop or Double(%d, %d, %d) tells true", l[0], l[1], which)
				}
			}
		}
		same(t, n, m)
	}
}

// P5.2: a link that was emptied has none any more, and may be filled again.
func TestEmptied(t *testing.T) {
	n := bodies(4, 0, "a")
	for range 3 {
		if !n.Drop(4, 0, 9) || n.Drop(4, 0, 9) || n.Double(4, 0, 0) {
			t.Error("one was there, and then none")
		}
		if p, ok := n.Any(0); ok || p != (api.Parcel{}) || len(n.All()) != 0 {
			t.Errorf("Any tells %v, %v", p, ok)
		}
		n.Send(4, 0, "b")
	}
	if s, ok := n.Take(4, 0, 0); s != "b" || !ok {
		t.Errorf("Take tells %q, %v", s, ok)
	}
}

// P5.2: a link with 200 messages has none doubled; one with 199 has.
func TestDoubleFull(t *testing.T) {
	for _, many := range []int{199, 200} {
		for _, which := range whichs(many) {
			n, m := full(0, 3, many)
			if got, want := n.Double(0, 3, which), m.double(0, 3, which); got != want || got != (many == 199) {
				t.Errorf("Double %d of %d tells %v", which, many, got)
			}
			same(t, n, m)
			if n.Double(0, 3, which) || n.Waits(0, 3) != 200 {
				t.Errorf("there wait %d", n.Waits(0, 3))
			}
		}
	}
}

// P5.2: Void takes away what is from or to a node, and nothing else.
func TestVoid(t *testing.T) {
	for node := -2; node <= 9; node++ {
		n, m := bag.New(), &model{}
		for from := range 8 {
			for to := range 8 {
				for i := range (from*3+to)%4 + from%2 {
					n.Send(from, to, strconv.Itoa(i))
					m.send(from, to, strconv.Itoa(i))
				}
			}
		}
		if got, want := n.Void(node), m.void(node); got != want || (got > 0) != (node >= 0 && node < 8) {
			t.Errorf("Void(%d) tells %d, not %d", node, got, want)
		}
		same(t, n, m)
		if got := n.Void(node); got != 0 {
			t.Errorf("Void(%d) once more tells %d", node, got)
		}
	}
	n := bodies(2, 3, "a", "b")
	n.Send(3, 4, "c")
	n.Send(4, 5, "d")
	for _, node := range []int{math.MinInt, -1, 0, 6, 7, 8, 10, math.MaxInt} {
		if n.Void(node) != 0 || len(n.All()) != 3+1 {
			t.Errorf("Void(%d) took some", node)
		}
	}
	if got := n.Void(3); got != 3 || !slices.Equal(n.All(), []api.Parcel{{From: 4, To: 5, Body: "d"}}) {
		t.Errorf("Void(3) tells %d and leaves %v", got, n.All())
	}
	if !n.Send(2, 3, "e") || n.Waits(2, 3) != 1 {
		t.Error("nothing can be sent to a node behind Void")
	}
}

// play does a step of a script to both, and fails the test if they tell otherwise.
func play(t *testing.T, d *draws, n *bag.Net, m *model, step int) {
	t.Helper()
	from, to, which := d.below(4)-1+d.below(2)*3, d.below(4), d.below(900)-450
	switch d.below(11) {
	case 0, 1, 2, 3, 4:
		s := fmt.Sprint(step)
		if got, want := n.Send(from, to, s), m.send(from, to, s); got != want {
			t.Fatalf("Send(%d, %d) tells %v", from, to, got)
		}
	case 5, 6:
		got, ok := n.Take(from, to, which)
		if want, is := m.out(one(m.on(from, to), which)); got != want.Body || ok != is {
			t.Fatalf("Take(%d, %d, %d) tells %q, %v, not %q, %v", from, to, which, got, ok, want.Body, is)
		}
	case 7:
		got, ok := n.Any(which)
		if want, is := m.out(one(m.all(), which)); got != want || ok != is {
			t.Fatalf("Any(%d) tells %v, %v, not %v, %v", which, got, ok, want, is)
		}
	case 8:
		_, is := m.out(one(m.on(from, to), which))
		if got := n.Drop(from, to, which); got != is {
			t.Fatalf("Drop(%d, %d, %d) tells %v", from, to, which, got)
		}
	case 9:
		if got, want := n.Double(from, to, which), m.double(from, to, which); got != want {
			t.Fatalf("Double(%d, %d, %d) tells %v", from, to, which, got)
		}
	case 10:
		if node := d.below(60) - 1; node < 9 {
			if got, want := n.Void(node), m.void(node); got != want {
				t.Fatalf("Void(%d) tells %d, not %d", node, got, want)
			}
		}
	}
}

// P5.1 and P5.2: scripts, held against the model; R4: the same script tells the same.
func TestScripts(t *testing.T) {
	for seed := range 200 {
		d := draws(seed)
		n, m := bag.New(), &model{}
		for step := range 120 {
			play(t, &d, n, m, step)
			same(t, n, m)
		}
	}
}

// P5.1 and P5.2: a script that fills links to the brim, held against the model.
func TestFullScript(t *testing.T) {
	d := draws(9)
	n, m := bag.New(), &model{}
	for step := range 6000 {
		from, to, which := d.below(2), 2+d.below(2), d.below(100000)-50000
		switch d.below(10) {
		case 0, 1, 2, 3, 4:
			n.Send(from, to, strconv.Itoa(step))
			m.send(from, to, strconv.Itoa(step))
		case 5, 6:
			n.Double(from, to, which)
			m.double(from, to, which)
		case 7, 8:
			n.Take(from, to, which)
			m.out(one(m.on(from, to), which))
		case 9:
			n.Any(which)
			m.out(one(m.all(), which))
		}
		if step%50 == 0 {
			same(t, n, m)
		}
	}
	if same(t, n, m); len(m.rows) < 780 {
		t.Errorf("only %d wait in the end", len(m.rows))
	}
}

// P5.3: a message comes as often at most as it was sent and doubled, on its own link, as it was.
func TestComes(t *testing.T) {
	d := draws(31)
	n := bag.New()
	may := map[api.Parcel]int{}
	came := func(p api.Parcel, ok bool) {
		if ok {
			may[p]--
		}
		if ok && may[p] < 0 {
			t.Errorf("%v came once too often", p)
		}
	}
	for step := range 5000 {
		from, to, which := d.below(8), d.below(8), d.below(1<<20)-1<<19
		p := api.Parcel{From: from, To: to, Body: fmt.Sprint(step, strings.Repeat("x", d.below(1900)))}
		switch d.below(6) {
		case 0, 1, 2:
			if n.Send(p.From, p.To, p.Body) {
				may[p]++
			}
		case 3:
			ahead := n.All()
			if n.Double(from, to, which) {
				may[added(ahead, n.All())]++
			}
		case 4:
			s, ok := n.Take(from, to, which)
			came(api.Parcel{From: from, To: to, Body: s}, ok)
		case 5:
			came(n.Any(which))
		}
	}
	for _, p := range n.All() {
		came(p, true)
	}
	for p, left := range may {
		if left != 0 {
			t.Errorf("%v was lost, and no one asked for that", p)
		}
	}
}

// added is the one that now has more often than then has.
func added(then, now []api.Parcel) api.Parcel {
	many := map[api.Parcel]int{}
	for _, p := range then {
		many[p]--
	}
	for _, p := range now {
		if many[p]++; many[p] > 0 {
			return p
		}
	}
	return api.Parcel{}
}

// R3: what All told is its owner's, and doesn't change later.
func TestToldIsOwned(t *testing.T) {
	n := bodies(1, 2, "a", "b", "c")
	n.Send(2, 1, "d")
	first := n.All()
	was := slices.Clone(first)
	n.Take(1, 2, 0)
	n.Double(1, 2, 0)
	n.Send(1, 2, "e")
	n.Any(0)
	n.Void(2)
	n.Send(1, 2, "f")
	if !slices.Equal(first, was) {
		t.Errorf("what was told has become %v", first)
	}
	l := n.All()
	for i := range l[:cap(l)] {
		l[:cap(l)][i] = api.Parcel{From: 5, To: 6, Body: "broken"}
	}
	_ = append(l[:0], api.Parcel{}, api.Parcel{})
	if got := n.All(); !slices.Equal(got, []api.Parcel{{From: 1, To: 2, Body: "f"}}) || n.Waits(1, 2) != 1 {
		t.Errorf("the owner's writing led to %v", got)
	}
}

// R3: bytes that a body was made of may be changed behind the call.
func TestHandedIn(t *testing.T) {
	b := []byte("abc")
	n := bodies(1, 2, string(b))
	b[0] = 'z'
	if s, _ := n.Take(1, 2, 0); s != "abc" {
		t.Errorf("Take tells %q", s)
	}
}

// The package keeps nothing beside its networks: one has nothing of another one.
func TestApart(t *testing.T) {
	a, b := bag.New(), bag.New()
	if a == b {
		t.Fatal("New tells the same one twice")
	}
	a.Send(1, 2, "a")
	b.Send(3, 4, "b")
	b.Void(1)
	if !slices.Equal(a.All(), []api.Parcel{{From: 1, To: 2, Body: "a"}}) || !slices.Equal(b.All(), []api.Parcel{{From: 3, To: 4, Body: "b"}}) {
		t.Errorf("they have %v and %v", a.All(), b.All())
	}
}

// A nil network tells false, nothing, 0.
func TestNil(t *testing.T) {
	var n *bag.Net
	for _, i := range []int{math.MinInt, -1, 0, 1, 7, 8, math.MaxInt} {
		s, ok := n.Take(i, 1, i)
		p, is := n.Any(i)
		if s != "" || ok || p != (api.Parcel{}) || is {
			t.Errorf("Take tells %q, %v, Any %v, %v", s, ok, p, is)
		}
		if n.Send(i, 2, "a") || n.Drop(i, 2, i) || n.Double(i, 2, i) {
			t.Error("Send, Drop or Double tells true")
		}
		if n.Waits(i, 2) != 0 || n.Void(i) != 0 || len(n.All()) != 0 {
			t.Error("some wait")
		}
	}
}

// A zero network is New().
func TestZero(t *testing.T) {
	for seed := range 20 {
		var n bag.Net
		m := &model{}
		same(t, &n, m)
		d := draws(seed)
		for step := range 60 {
			play(t, &d, &n, m, step)
		}
		same(t, &n, m)
	}
	if p, ok := new(bag.Net).Any(3); ok || p != (api.Parcel{}) || new(bag.Net).Void(0) != 0 {
		t.Errorf("a zero one has %v", p)
	}
}
