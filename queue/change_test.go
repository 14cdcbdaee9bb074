package queue_test

import (
	"slices"
	"testing"

	"lockgate/api"
	"lockgate/queue"
)

// step is a change of a queue, with the queue and the claims that it is to tell.
type step struct {
	from string
	c    change
	to   string
	told string
}

// take fails the test, if a step tells anything else, or changes what was handed in.
func take(t *testing.T, s step) {
	t.Helper()
	from := queueOf(s.from)
	q, told := ask(from, s.c)
	same(t, s.c.String()+" of "+s.from, q, told, s.to, s.told)
	if !equal(from, queueOf(s.from)) {
		t.Errorf("%s has made %s of %s", s.c, text(from), s.from)
	}
}

// P9.2: who wants what it hasn't waits, and is served, if nothing stands against it.
func TestWant(t *testing.T) {
	for _, s := range []step{
		{"|", change{want, 1, 1}, "1s|", "1s"},
		{"|", change{want, 0, 2}, "0a|", "0a"},
		{"|", change{want, 7, 2}, "7a|", "7a"},
		{"2s|", change{want, 1, 1}, "1s 2s|", "1s"},
		{"2s|", change{want, 3, 1}, "2s 3s|", "3s"},
		{"0s 2s 7s|", change{want, 5, 1}, "0s 2s 5s 7s|", "5s"},
		{"1s 2s|", change{want, 3, 2}, "1s 2s|3a", ""},
		{"1a|", change{want, 2, 1}, "1a|2s", ""},
		{"1a|", change{want, 2, 2}, "1a|2a", ""},
		{"1a|3s", change{want, 2, 1}, "1a|3s 2s", ""},
		{"1a|3s 2a", change{want, 0, 2}, "1a|3s 2a 0a", ""},
		{"1s|2a", change{want, 3, 1}, "1s|2a 3s", ""},
	} {
		take(t, s)
	}
}

// P9.2: who has a resource, and wants more of it.
func TestWantMore(t *testing.T) {
	for _, s := range []step{
		{"1s|", change{want, 1, 2}, "1a|", "1a"},
		{"1s 2s|", change{want, 1, 2}, "1s 2s|1a", ""},
		{"1s 2s|", change{want, 2, 2}, "1s 2s|2a", ""},
		{"1s 2s|1a", change{want, 2, 2}, "1s 2s|1a 2a", ""},
		{"1s 2s|3a", change{want, 1, 2}, "1s 2s|3a 1a", ""},
		{"1s 2s|1a", change{drop, 2, 0}, "1a|", "1a"},
		{"1s 2s|1a 2a", change{drop, 2, 0}, "1a|2a", "1a"},
		{"1s 2s|1a", change{leave, 2, 0}, "1a|", "1a"},
		{"1s 2s|1a", change{drop, 1, 0}, "2s|1a", ""},
		{"2s|1a", change{drop, 2, 0}, "1a|", "1a"},
		{"1s 2s|1a", change{leave, 1, 0}, "2s|", ""},
		{"1s 2s|3a 1a", change{drop, 2, 0}, "1s|3a 1a", ""},
		{"1s|3a 1a", change{leave, 3, 0}, "1a|", "1a"},
	} {
		take(t, s)
	}
}

// P9.2: a claim that covers what is wanted is told, and nothing happens, whatever the node waits for.
func TestWantCovered(t *testing.T) {
	for _, s := range []step{
		{"1s|", change{want, 1, 1}, "1s|", "1s"},
		{"1a|", change{want, 1, 1}, "1a|", "1a"},
		{"1a|", change{want, 1, 2}, "1a|", "1a"},
		{"1s 2s|3a", change{want, 2, 1}, "1s 2s|3a", "2s"},
		{"1a|2s 3a", change{want, 1, 1}, "1a|2s 3a", "1a"},
		{"1s 2s|1a", change{want, 1, 1}, "1s 2s|1a", "1s"},
		{"1s 2s|3a 1a", change{want, 1, 1}, "1s 2s|3a 1a", "1s"},
		{"1s 2s|3a 2s", change{want, 2, 1}, "1s 2s|3a 2s", "2s"},
		{"1a|2s 1s", change{want, 1, 1}, "1a|2s 1s", "1a"},
		{"1a|2s 1s", change{want, 1, 2}, "1a|2s 1s", "1a"},
		{"1a|2a 1a 3s", change{want, 1, 1}, "1a|2a 1a 3s", "1a"},
	} {
		take(t, s)
	}
}

// P9.2: another wish takes the place of the first one: at the front, if the node waits there; behind all others, if it doesn't.
func TestWantAnother(t *testing.T) {
	for _, s := range []step{
		{"1s|2a", change{want, 2, 1}, "1s 2s|", "2s"},
		{"1s|2a 3s", change{want, 2, 1}, "1s 2s 3s|", "2s 3s"},
		{"1s|2a 3s 4a 5s", change{want, 2, 1}, "1s 2s 3s|4a 5s", "2s 3s"},
		{"1s|2a 3a 4s", change{want, 2, 1}, "1s 2s|3a 4s", "2s"},
		{"1s|2a 3a 4s", change{want, 2, 2}, "1s|2a 3a 4s", ""},
		{"1a|2s", change{want, 2, 2}, "1a|2a", ""},
		{"1a|2s 3s", change{want, 2, 2}, "1a|2a 3s", ""},
		{"1a|2s 3s", change{want, 2, 1}, "1a|2s 3s", ""},
		{"1s 2s|1a 3s", change{want, 1, 2}, "1s 2s|1a 3s", ""},
		{"1a|2s 3s 4s", change{want, 3, 2}, "1a|2s 4s 3a", ""},
		{"1a|2s 3s 4s", change{want, 3, 1}, "1a|2s 4s 3s", ""},
		{"1a|2s 3s 4s", change{want, 4, 2}, "1a|2s 3s 4a", ""},
		{"1a|2s 3s 4s", change{want, 4, 1}, "1a|2s 3s 4s", ""},
		{"1s|2a 3s 4a", change{want, 3, 1}, "1s|2a 4a 3s", ""},
		{"1s 2s|3a 1a 4s", change{want, 1, 2}, "1s 2s|3a 4s 1a", ""},
		{"1s 2s|3a 1s 4s", change{want, 1, 2}, "1s 2s|3a 4s 1a", ""},
	} {
		take(t, s)
	}
}

// P9.2: who has more has less then, and as many are served as fit.
func TestDrop(t *testing.T) {
	for _, s := range []step{
		{"1a|", change{drop, 1, 1}, "1s|", ""},
		{"1a|", change{drop, 1, 0}, "|", ""},
		{"1s|", change{drop, 1, 0}, "|", ""},
		{"0s 3s 7s|", change{drop, 3, 0}, "0s 7s|", ""},
		{"1a|2s 3s", change{drop, 1, 1}, "1s 2s 3s|", "2s 3s"},
		{"1a|3s 2s", change{drop, 1, 1}, "1s 2s 3s|", "3s 2s"},
		{"1a|3s 0s 2a 4s", change{drop, 1, 1}, "0s 1s 3s|2a 4s", "3s 0s"},
		{"1a|2s 3s", change{drop, 1, 0}, "2s 3s|", "2s 3s"},
		{"1a|2a 3s", change{drop, 1, 1}, "1s|2a 3s", ""},
		{"1a|2a 3s", change{drop, 1, 0}, "2a|3s", "2a"},
		{"1a|2s 3a", change{drop, 1, 0}, "2s|3a", "2s"},
		{"1s 2s|3a", change{drop, 1, 0}, "2s|3a", ""},
		{"2s|3a", change{drop, 2, 0}, "3a|", "3a"},
		{"1a|2s 1s", change{drop, 1, 1}, "1s 2s|", "2s 1s"},
		{"1a|2s 1a", change{drop, 1, 1}, "1s 2s|1a", "2s"},
		{"1a|2a 1s", change{drop, 1, 0}, "2a|1s", "2a"},
		{"1a|0s 2s 3s 4s 5s 6s 7s", change{drop, 1, 0}, "0s 2s 3s 4s 5s 6s 7s|", "0s 2s 3s 4s 5s 6s 7s"},
	} {
		take(t, s)
	}
}

// P9.2: who has nothing stronger drops nothing.
func TestDropNothing(t *testing.T) {
	for _, from := range []string{"|", "1s|", "1a|", "1s 2s|", "1a|2s 3s", "1s|2a 3s", "1s 2s|1a 2a", "1a|2s 1s", "1s 2s 3s|4a 1a"} {
		q := queueOf(from)
		for node := range 8 {
			for m := queue.Mode(q, node); m <= 4; m++ {
				take(t, step{from, change{drop, node, m}, from, ""})
			}
		}
	}
}

// P9.2: who leaves neither has it nor waits, and as many are served as fit.
func TestLeave(t *testing.T) {
	for _, s := range []step{
		{"|", change{leave, 1, 0}, "|", ""},
		{"1s|", change{leave, 1, 0}, "|", ""},
		{"1a|", change{leave, 1, 0}, "|", ""},
		{"1a|", change{leave, 2, 0}, "1a|", ""},
		{"1s 2s 3s|", change{leave, 2, 0}, "1s 3s|", ""},
		{"1s 2s|3a", change{leave, 3, 0}, "1s 2s|", ""},
		{"1s|2a 3s", change{leave, 2, 0}, "1s 3s|", "3s"},
		{"1s|2a 3s 4s 5a 6s", change{leave, 2, 0}, "1s 3s 4s|5a 6s", "3s 4s"},
		{"1s|2a 3s 4a", change{leave, 3, 0}, "1s|2a 4a", ""},
		{"1s|2a 3s 4a", change{leave, 4, 0}, "1s|2a 3s", ""},
		{"1a|2s 3s 4a 5s", change{leave, 1, 0}, "2s 3s|4a 5s", "2s 3s"},
		{"1a|2a 3a", change{leave, 1, 0}, "2a|3a", "2a"},
		{"1s 2s|1a 3s", change{leave, 1, 0}, "2s 3s|", "3s"},
		{"1s 2s|3a 1a 4s", change{leave, 1, 0}, "2s|3a 4s", ""},
		{"1a|2s 1s", change{leave, 1, 0}, "2s|", "2s"},
		{"1a|2s 1s", change{leave, 2, 0}, "1s|", "1s"},
		{"1a|2a 1a", change{leave, 2, 0}, "1a|", "1a"},
		{"1a|2s 1s 3s", change{leave, 2, 0}, "1s 3s|", "1s 3s"},
	} {
		take(t, s)
	}
}

// P9.2: several are served at once, in the order in which they wait.
func TestSeveralAreServed(t *testing.T) {
	q, told := queueOf("7a|"), []api.Claim(nil)
	row := []int{3, 0, 6, 1, 5, 2, 4}
	for _, node := range row {
		q, told = queue.Want(q, node, api.Share)
		if len(told) > 0 {
			t.Fatalf("%s is served beside 7's Alone", claimsText(told))
		}
	}
	q, told = queue.Drop(q, 7, api.Share)
	same(t, "7's dropping", q, told, "0s 1s 2s 3s 4s 5s 6s 7s|", "3s 0s 6s 1s 5s 2s 4s")
}

// P9.2: nodes and modes that are none change nothing, and nobody is told anything.
func TestChangesThatAreNone(t *testing.T) {
	for _, from := range []string{"|", "1s|", "1a|", "0s 7s|", "1s|2a 3s", "1a|2s 3a", "1s 2s|1a", "1a|2s 1s"} {
		for _, node := range farNodes {
			for _, m := range slices.Concat(noModes, []int{0, 1, 2}) {
				for _, what := range []int{want, drop, leave} {
					take(t, step{from, change{what, node, m}, from, ""})
				}
			}
		}
		for node := range 8 {
			take(t, step{from, change{want, node, 0}, from, ""})
			for _, m := range noModes {
				take(t, step{from, change{want, node, m}, from, ""})
				take(t, step{from, change{drop, node, m}, from, ""})
			}
		}
	}
}

// P9.2: queues that may not be are handed on as they are, and nobody is told anything.
func TestChangesOfWrongQueues(t *testing.T) {
	asked := changes([]int{-1, 0, 1, 2, 3, 4, 7, 8}, []int{-1, 0, 1, 2, 3})
	for s := range wrongQueues() {
		for _, c := range asked {
			take(t, step{s, c, s, ""})
		}
	}
}

// P9.2: so are all queues that may not be of two lists of up to two claims, nodes and modes that are none among them.
func TestChangesOfAllWrongQueues(t *testing.T) {
	all := lists(allClaims([]int{-1, 0, 7, 8}, []int{0, 1, 2, 3}), 2)
	asked := changes([]int{-1, 0, 3, 7}, []int{0, 1, 2})
	for _, has := range all {
		for _, waits := range all {
			q := api.Queue{Has: has, Waits: waits}
			if len(reasons(q)) == 0 {
				continue
			}
			was := clone(q)
			for _, c := range asked {
				next, told := ask(q, c)
				if len(told) > 0 || !equal(next, was) || !equal(q, was) {
					t.Fatalf("%s of %s tells %s and %q", c, text(was), text(next), claimsText(told))
				}
			}
		}
	}
}
