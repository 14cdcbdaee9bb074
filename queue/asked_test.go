package queue_test

import (
	"math"
	"slices"
	"testing"

	"lockgate/api"
	"lockgate/queue"
)

// callsOf is Calls as the chapter words it, of any queue.
func callsOf(q api.Queue) []api.Claim {
	if len(q.Waits) == 0 {
		return nil
	}
	first, rest := q.Waits[0], 0
	for m := range 3 {
		if fit(m, first.Mode) {
			rest = m
		}
	}
	var l []api.Claim
	for _, c := range q.Has {
		if c.Node != first.Node && !fit(c.Mode, first.Mode) {
			l = append(l, api.Claim{Node: c.Node, Mode: rest})
		}
	}
	return l
}

// firstOf is the mode of a node's first claim.
func firstOf(l []api.Claim, node int) int {
	m := 0
	for i := len(l) - 1; i >= 0; i-- {
		if l[i].Node == node {
			m = l[i].Mode
		}
	}
	return m
}

// asks fails the test, if of q anything else is told than the chapter words, or if q is another one then.
func asks(t *testing.T, q api.Queue, nodes ...int) {
	t.Helper()
	was := clone(q)
	if got, want := queue.Calls(q), callsOf(was); !slices.Equal(got, want) {
		t.Fatalf("Calls of %s tells %s, not %s", text(was), claimsText(got), claimsText(want))
	}
	for _, node := range nodes {
		if got, want := queue.Mode(q, node), firstOf(was.Has, node); got != want {
			t.Fatalf("Mode of %s and %d tells %d, not %d", text(was), node, got, want)
		}
		if got, want := queue.Waiting(q, node), firstOf(was.Waits, node); got != want {
			t.Fatalf("Waiting of %s and %d tells %d, not %d", text(was), node, got, want)
		}
	}
	if !equal(q, was) {
		t.Fatalf("asking has made %s of %s", text(q), text(was))
	}
}

// P9.3: who is called, and to what, of queues that may be and of some that may not.
func TestCalls(t *testing.T) {
	for s, want := range map[string]string{
		"|":                  "",
		"1s 2a|":             "",
		"1a|2s":              "1s",
		"1a|2a":              "1n",
		"1s 2s|3a":           "1n 2n",
		"1s 2s|3a 4s 1a":     "1n 2n",
		"1s 2s|1a":           "2n",
		"1s 2s|2a":           "1n",
		"1s 2s|2a 1a":        "1n",
		"0s 3s 5s 7s|5a":     "0n 3n 7n",
		"1a|2s 3a":           "1s",
		"1a|2s 1s":           "1s",
		"1a|2a 3s":           "1n",
		"1s|2s":              "",
		"1a|1s":              "",
		"|1a":                "",
		"3s 1s 2s|4a":        "3n 1n 2n",
		"3s 1a 2s|4s":        "1s",
		"1s 1a 1s|2s":        "1s",
		"1s 1a 1s|2a":        "1n 1n 1n",
		"1s 2n 3a|4a":        "1n 3n",
		"1n 2n|3a":           "",
		"1x 2s 3n|4s":        "1s",
		"1x 2s 3n|4a":        "1n 2n",
		"1x|4n":              "1a",
		"1s 2a|4n":           "",
		"1s 2a 3n|4x":        "1n 2n 3n",
		"1s 2a|1x":           "2n",
		"8a -1s|-1s":         "8s",
		"8a -1s|9a":          "8n -1n",
		"1a|2s 2a":           "1s",
		"1a|2a 2s":           "1n",
		"0s 1s 2s 3s|0a 3s":  "1n 2n 3n",
		"0s 1s 2s 3s|4a 0s":  "0n 1n 2n 3n",
		"0a|1s 2s 3s 4s 5s ": "0s",
	} {
		q := queueOf(s)
		if got := claimsText(queue.Calls(q)); got != want {
			t.Errorf("Calls of %s tells %q, not %q", s, got, want)
		}
		asks(t, q, -1, 0, 1, 2, 3, 4, 5, 8)
	}
}

// P9.3: what a node has, and what it waits for: the first one, if there are several; None, if there is nothing.
func TestModeAndWaiting(t *testing.T) {
	for _, c := range []struct {
		q           string
		node        int
		mode, waits int
	}{
		{"|", 1, 0, 0},
		{"1s|", 1, 1, 0},
		{"1a|", 1, 2, 0},
		{"1a|", 2, 0, 0},
		{"1a|2s", 2, 0, 1},
		{"1a|2a", 2, 0, 2},
		{"1a|2a", 1, 2, 0},
		{"1s 2s|2a 1a", 1, 1, 2},
		{"0s 7s|7a", 7, 1, 2},
		{"0s 7s|7a", 0, 1, 0},
		{"1a|2s 3a", 3, 0, 2},
		{"1a|2s 1s", 1, 2, 1},
		{"1s 1a|2s 2a", 1, 1, 0},
		{"1a 1s|2a 2s", 1, 2, 0},
		{"1a 1s|2a 2s", 2, 0, 2},
		{"1a 1s|2s 2a", 2, 0, 1},
		{"1n 1s|2n 2a", 1, 0, 0},
		{"1n 1s|2n 2a", 2, 0, 0},
		{"1x|2x", 1, 3, 0},
		{"1x|2x", 2, 0, 3},
		{"-1s 8a|", -1, 1, 0},
		{"-1s 8a|9s", 8, 2, 0},
		{"-1s 8a|9s", 9, 0, 1},
		{"-1s 8a|9s", 0, 0, 0},
	} {
		q := queueOf(c.q)
		if got := queue.Mode(q, c.node); got != c.mode {
			t.Errorf("Mode of %s and %d tells %d, not %d", c.q, c.node, got, c.mode)
		}
		if got := queue.Waiting(q, c.node); got != c.waits {
			t.Errorf("Waiting of %s and %d tells %d, not %d", c.q, c.node, got, c.waits)
		}
	}
}

// P9.3: nodes that there aren't have nothing, and wait for nothing.
func TestNodesThatAreNone(t *testing.T) {
	q := queueOf("0s 1s 2s 3s 4s 5s 6s 7s|7a 6a 5a 4a 3a 2a 1a 0a")
	for _, node := range farNodes {
		if queue.Mode(q, node) != 0 || queue.Waiting(q, node) != 0 {
			t.Errorf("node %d has %d, and waits for %d", node, queue.Mode(q, node), queue.Waiting(q, node))
		}
	}
}

// P9.3: all queues of up to two claims each, whether they may be or not.
func TestAllAsked(t *testing.T) {
	all := lists(allClaims([]int{-1, 0, 7, 8}, []int{0, 1, 2, 3}), 2)
	for _, has := range all {
		for _, waits := range all {
			asks(t, api.Queue{Has: has, Waits: waits}, -2, -1, 0, 1, 7, 8)
		}
	}
	all = lists(allClaims([]int{2, 5}, []int{1, 2}), 3)
	for _, has := range all {
		for _, waits := range all {
			asks(t, api.Queue{Has: has, Waits: waits}, 1, 2, 5)
		}
	}
}

// P9.3: each number as a mode, of what is had and of what is waited for.
func TestAskedFarNumbers(t *testing.T) {
	numbers := slices.Concat([]int{0, 1, 2}, noModes)
	for _, a := range numbers {
		for _, b := range numbers {
			asks(t, api.Queue{Has: []api.Claim{{Node: 1, Mode: a}}, Waits: []api.Claim{{Node: 2, Mode: b}}}, 0, 1, 2)
			asks(t, api.Queue{Has: []api.Claim{{Node: 2, Mode: a}, {Node: 3, Mode: b}}, Waits: []api.Claim{{Node: 2, Mode: b}}}, 2, 3)
		}
	}
	for _, a := range farNodes {
		for _, b := range farNodes {
			asks(t, api.Queue{Has: []api.Claim{{Node: a, Mode: 1}, {Node: 1, Mode: 1}}, Waits: []api.Claim{{Node: b, Mode: 2}}}, a, b, 1)
		}
	}
}

// P9.3: what is asked along drawn changes from nothing on; somebody is called just if somebody waits.
func TestDrawnAsked(t *testing.T) {
	scripts(t, func(_, q api.Queue, _ change, _ []api.Claim) {
		asks(t, q, -1, 0, 1, 2, 3, 4, 5, 6, 7, 8)
		if called := queue.Calls(q); len(called) == 0 != (len(q.Waits) == 0) {
			t.Fatalf("Calls of %s tells %s", text(q), claimsText(called))
		}
	})
}

// many is how many claims a long list has.
const many = 400000

// long are so many claims of nodes, each of which c tells.
func long(c func(i int) api.Claim) []api.Claim {
	l := make([]api.Claim, many)
	for i := range l {
		l[i] = c(i)
	}
	return l
}

// R5, P1: long lists are answered, whatever stands in them.
func TestLongLists(t *testing.T) {
	all := [][]api.Claim{
		long(func(int) api.Claim { return api.Claim{Node: 1, Mode: 1} }),
		long(func(i int) api.Claim { return api.Claim{Node: i % 8, Mode: 1} }),
		long(func(i int) api.Claim { return api.Claim{Node: i, Mode: 2} }),
		long(func(i int) api.Claim { return api.Claim{Node: many - i, Mode: i % 3} }),
		long(func(i int) api.Claim { return api.Claim{Node: math.MinInt + i, Mode: 3} }),
		{},
		claimsOf("1s 2s"),
		claimsOf("3a"),
	}
	for _, has := range all {
		for _, waits := range all {
			q := api.Queue{Has: has, Waits: waits}
			if len(has)+len(waits) < many {
				continue
			}
			if got := queue.Check(q); got != api.ErrArg {
				t.Errorf("Check of %d and %d claims tells %d", len(has), len(waits), got)
			}
			for _, c := range changes([]int{1, many}, []int{2}) {
				if next, told := ask(q, c); len(told) > 0 || !equal(next, q) {
					t.Errorf("%s of %d and %d claims changes them, or serves %d", c, len(has), len(waits), len(told))
				}
			}
			if got := queue.Calls(q); !slices.Equal(got, callsOf(q)) {
				t.Errorf("Calls of %d and %d claims tells %d", len(has), len(waits), len(got))
			}
			if queue.Mode(q, 1) != firstOf(has, 1) || queue.Waiting(q, -1) != 0 {
				t.Errorf("of %d and %d claims other modes are told", len(has), len(waits))
			}
		}
	}
}
