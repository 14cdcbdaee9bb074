package mode_test

import (
	"math"
	"slices"
	"testing"

	"lockgate/api"
	"lockgate/mode"
)

// draws are numbers that look like chance, the same at each run.
type draws uint64

func (d *draws) below(n int) int {
	*d = *d*6364136223846793005 + 1442695040888963407
	return int(uint64(*d) >> 33 % uint64(n))
}

// claims are those of these nodes and modes, by turns.
func claims(l ...int) []api.Claim {
	var c []api.Claim
	for i := 0; i+1 < len(l); i += 2 {
		c = append(c, api.Claim{Node: l[i], Mode: l[i+1]})
	}
	return c
}

// safeOf is Safe as the chapter words it: each claim by itself, and any two.
func safeOf(l []api.Claim) bool {
	for i, a := range l {
		if !isMode(a.Mode) {
			return false
		}
		for _, b := range l[i+1:] {
			if a.Node == b.Node || !isMode(b.Mode) || !fits[a.Mode][b.Mode] {
				return false
			}
		}
	}
	return true
}

// strongestOf is Strongest as the chapter words it.
func strongestOf(l []api.Claim, but int) int {
	top := 0
	for _, c := range l {
		if c.Node != but && isMode(c.Mode) {
			top = stronger[top][c.Mode]
		}
	}
	return top
}

// same fails the test, if of a list of claims anything else is told than the chapter words, or if the list is another one then.
func same(t *testing.T, l []api.Claim, buts ...int) {
	t.Helper()
	was := slices.Clone(l)
	if got, want := mode.Safe(l), safeOf(was); got != want {
		t.Fatalf("Safe of %v tells %v", was, got)
	}
	for _, but := range buts {
		if got, want := mode.Strongest(l, but), strongestOf(was, but); got != want {
			t.Fatalf("Strongest of %v but %d tells %d, not %d", was, but, got, want)
		}
	}
	if !slices.Equal(l, was) {
		t.Fatalf("%v has become %v", was, l)
	}
}

// P8.2: lists as they come, and the edges that the chapter names.
func TestSafe(t *testing.T) {
	for _, c := range []struct {
		l    []api.Claim
		want bool
	}{
		{nil, true},
		{[]api.Claim{}, true},
		{claims(1, 0), true},
		{claims(1, 1), true},
		{claims(1, 2), true},
		{claims(1, 3), false},
		{claims(1, -1), false},
		{claims(1, math.MinInt), false},
		{claims(1, 1, 2, 1), true},
		{claims(1, 1, 2, 1, 3, 1, 4, 1, 5, 1, 6, 1, 7, 1, 0, 1), true},
		{claims(1, 2, 2, 1), false},
		{claims(1, 1, 2, 2), false},
		{claims(1, 2, 2, 2), false},
		{claims(1, 2, 2, 0), true},
		{claims(1, 0, 2, 2, 3, 0), true},
		{claims(1, 2, 2, 0, 3, 0, 4, 1), false},
		{claims(1, 1, 2, 0, 3, 0, 4, 2), false},
		{claims(1, 0, 2, 0, 3, 0), true},
		{claims(1, 1, 1, 1), false},
		{claims(1, 0, 1, 0), false},
		{claims(1, 2, 1, 0), false},
		{claims(1, 2, 2, 0, 1, 0), false},
		{claims(3, 1, 2, 1, 1, 1), true},
		{claims(3, 1, 1, 1, 2, 1), true},
		{claims(1, 1, 2, 1, 3, 7), false},
		{claims(3, 7, 2, 1, 1, 1), false},
		{claims(1, 0, 2, 3), false},
		{claims(1, 3, 2, 0), false},
	} {
		check(t, "Safe", c.l, mode.Safe(c.l), c.want)
	}
}

// P8.2: the strongest one, whatever stands where, without the node that doesn't count, whether it is there or not.
func TestStrongest(t *testing.T) {
	mixed := claims(4, 1, 2, 0, 7, 2, 2, 1)
	for _, c := range []struct {
		l         []api.Claim
		but, want int
	}{
		{nil, 0, 0},
		{[]api.Claim{}, 5, 0},
		{claims(1, 0), 2, 0},
		{claims(1, 1), 2, 1},
		{claims(1, 2), 2, 2},
		{claims(1, 2), 1, 0},
		{claims(1, 2), -1, 2},
		{claims(1, 1, 2, 2), 1, 2},
		{claims(1, 1, 2, 2), 2, 1},
		{claims(2, 2, 1, 1), 2, 1},
		{claims(1, 2, 1, 1), 1, 0},
		{claims(1, 2, 2, 1, 1, 2), 1, 1},
		{claims(1, 1, 1, 2), 2, 2},
		{mixed, 0, 2},
		{mixed, 7, 1},
		{mixed, 4, 2},
		{mixed, 2, 2},
		{claims(1, 3), 2, 0},
		{claims(1, math.MaxInt, 2, 1), 3, 1},
		{claims(1, -1, 2, 0), 3, 0},
		{claims(1, 2, 2, 3), 3, 2},
		{claims(2, 3, 1, 1), 3, 1},
		{claims(1, 3, 2, 2), 2, 0},
	} {
		check(t, "Strongest", [2]any{c.l, c.but}, mode.Strongest(c.l, c.but), c.want)
	}
}

// P8.2: all lists of up to four claims of three nodes, in any order, any of them twice, modes that are none among them.
func TestAllLists(t *testing.T) {
	var each []api.Claim
	for _, node := range []int{0, 1, 7} {
		for m := -1; m <= 3; m++ {
			each = append(each, api.Claim{Node: node, Mode: m})
		}
	}
	lists := [][]api.Claim{nil}
	for range 5 {
		var longer [][]api.Claim
		for _, l := range lists {
			same(t, l, -1, 0, 1, 2, 7, 8)
			for _, c := range each {
				longer = append(longer, append(l[:len(l):len(l)], c))
			}
		}
		lists = longer
	}
}

// P8.2: each two numbers as the modes of two claims, of unlike nodes and of one.
func TestClaimsOfAllNumbers(t *testing.T) {
	for _, a := range numbers() {
		same(t, claims(5, a), 5, 6)
		for _, b := range numbers() {
			same(t, claims(5, a, 6, b), 4, 5, 6)
			same(t, claims(6, b, 5, a), 4, 5, 6)
			same(t, claims(5, a, 5, b), 4, 5)
			same(t, claims(1, 0, 5, a, 2, 1, 6, b, 3, 0), 1, 2, 5, 6)
		}
	}
}

// P8.2: nodes are any numbers; those that a part of their bits might have taken for the same are unlike.
func TestFarNodes(t *testing.T) {
	far := []int{math.MinInt, -1 << 32, -256, -8, -1, 0, 1, 7, 8, 9, 64, 65, 255, 256, 257, 1 << 16, 1 << 32, 1<<32 + 1, 1 << 62, math.MaxInt}
	for _, a := range far {
		for _, b := range far {
			check(t, "Safe", [2]int{a, b}, mode.Safe(claims(a, 1, b, 1)), a != b)
			check(t, "Safe", [2]int{a, b}, mode.Safe(claims(a, 0, 3, 1, b, 0)), a != b)
			for _, m := range three {
				want := m
				if a == b {
					want = 0
				}
				check(t, "Strongest", [3]int{a, b, m}, mode.Strongest(claims(a, m), b), want)
			}
		}
	}
}

// drawn is a list of claims, most of which may stand beside each other.
func drawn(d *draws) []api.Claim {
	var l []api.Claim
	for node := range d.below(12) {
		l = append(l, api.Claim{Node: node, Mode: d.below(2)})
	}
	if len(l) > 0 && d.below(2) == 0 {
		c := &l[d.below(len(l))]
		switch d.below(3) {
		case 0:
			c.Mode = numbers()[d.below(len(numbers()))]
		case 1:
			c.Node = d.below(len(l))
		case 2:
			for i := range l {
				l[i].Mode = 0
			}
			c.Mode = 2
		}
	}
	for i := range l {
		j := d.below(i + 1)
		l[i], l[j] = l[j], l[i]
	}
	return l
}

// P8.2: lists of up to eleven claims, in any order.
func TestDrawnLists(t *testing.T) {
	d, safe := draws(8), 0
	for range 20000 {
		l := drawn(&d)
		same(t, l, d.below(12), d.below(12), -1)
		if safeOf(l) {
			safe++
		}
	}
	if safe < 5000 || safe > 19000 {
		t.Errorf("%d of the lists are safe: too many, or too few, to tell much", safe)
	}
}

// P8.2: the order of claims has no effect, nor has one of None of a node that has none yet.
func TestOrderHasNoEffect(t *testing.T) {
	d := draws(9)
	for range 5000 {
		l := drawn(&d)
		back := slices.Clone(l)
		slices.Reverse(back)
		more := append(slices.Clone(l), api.Claim{Node: 50})
		for _, other := range [][]api.Claim{back, more} {
			check(t, "Safe", other, mode.Safe(other), mode.Safe(l))
			check(t, "Strongest", other, mode.Strongest(other, 3), mode.Strongest(l, 3))
		}
	}
}

// P8.2 with P8.1: a claim of another node may be laid beside safe ones just if it fits the strongest of them.
func TestFitsTheStrongest(t *testing.T) {
	d := draws(10)
	for range 5000 {
		l := drawn(&d)
		if !mode.Safe(l) {
			continue
		}
		for _, m := range numbers() {
			beside := append(slices.Clone(l), api.Claim{Node: 50, Mode: m})
			check(t, "Safe", beside, mode.Safe(beside), mode.Fit(m, mode.Strongest(l, 50)))
		}
	}
}

// R5, P1: long lists are answered, whatever makes them safe or not.
func TestLongLists(t *testing.T) {
	const many = 400000
	l := make([]api.Claim, many)
	for i := range l {
		l[i].Node = many - i
	}
	ask := func(what string, safe bool, but, top int) {
		t.Helper()
		check(t, "Safe", what, mode.Safe(l), safe)
		check(t, "Strongest", what, mode.Strongest(l, but), top)
	}
	ask("None", true, 0, 0)
	l[many-1].Mode = 2
	ask("None, and Alone behind", true, 0, 2)
	ask("None, and Alone behind", true, 1, 0)
	l[0].Mode = 1
	ask("Share, None, and Alone behind", false, 1, 1)
	l[0].Mode, l[many-1].Mode = 3, 0
	ask("none, and None", false, 0, 0)
	for i := range l {
		l[i].Mode = 1
	}
	ask("Share", true, 0, 1)
	l[many-1].Node = many
	ask("Share, the first node once more", false, many, 1)
}

// R3: what is handed in stays as it was, also what lies behind it; what its owner does to it later has no effect.
func TestHandedInStays(t *testing.T) {
	whole := claims(3, 1, 1, 1, 2, 0, 1, 2, 9, 9, 3, 2)
	for from := range len(whole) + 1 {
		for to := from; to <= len(whole); to++ {
			was := slices.Clone(whole)
			l := whole[from:to]
			safe, top := mode.Safe(l), mode.Strongest(l, 2)
			if !slices.Equal(whole, was) {
				t.Fatalf("%v has become %v", was, whole)
			}
			clear(whole)
			check(t, "Safe", was[from:to], mode.Safe(was[from:to]), safe)
			check(t, "Strongest", was[from:to], mode.Strongest(was[from:to], 2), top)
			copy(whole, was)
		}
	}
}
