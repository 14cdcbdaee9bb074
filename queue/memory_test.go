package queue_test

import (
	"slices"
	"testing"

	"lockgate/api"
	"lockgate/queue"
)

// queues are some that may be, some that may not.
var queues = []string{
	"|", "1s|", "1a|", "1s 2s|", "0s 1s 2s 7s|", "1s|2a 3s", "1a|2s 3s", "1a|2s 3a 4s", "1s 2s|1a", "1s 2s|3a 1a 0s", "1a|2s 1s 3s", "1a|2a",
	"2s 1s|", "1s 2a|3s", "|1s", "1a|2s 2s", "8s|1a", "1a|2x", "1n|",
}

// far are claims that stand behind what is handed in, in the same memory.
const far = "5a 9x 6s 7n"

// behind is a queue whose lists stand in one memory, one behind the other, with more behind each of them; and that memory.
func behind(s string) (api.Queue, []api.Claim) {
	q := queueOf(s)
	whole := slices.Concat(q.Has, claimsOf(far), q.Waits, claimsOf(far))
	from := len(q.Has) + len(claimsOf(far))
	return api.Queue{Has: whole[:len(q.Has)], Waits: whole[from : from+len(q.Waits)]}, whole
}

// R3: what is handed in stays as it was, also what lies behind it.
func TestHandedInStays(t *testing.T) {
	for _, s := range queues {
		for _, c := range changes([]int{-1, 0, 1, 2, 3, 4, 8}, []int{0, 1, 2, 3}) {
			q, whole := behind(s)
			was := slices.Clone(whole)
			ask(q, c)
			queue.Check(q)
			queue.Calls(q)
			queue.Mode(q, c.node)
			queue.Waiting(q, c.node)
			if !slices.Equal(whole, was) {
				t.Fatalf("%s of %s has made %s of %s", c, s, claimsText(whole), claimsText(was))
			}
		}
	}
}

// R3: what its owner does to what was handed in has no effect on what was told.
func TestHandedInMayChange(t *testing.T) {
	for _, s := range queues {
		for _, c := range changes([]int{-1, 0, 1, 2, 3, 4, 8}, []int{0, 1, 2, 3}) {
			q, whole := behind(s)
			next, told := ask(q, c)
			called := queue.Calls(q)
			wasNext, wasTold, wasCalled := clone(next), slices.Clone(told), slices.Clone(called)
			for i := range whole {
				whole[i] = api.Claim{Node: 77, Mode: 77}
			}
			if !equal(next, wasNext) || !slices.Equal(told, wasTold) || !slices.Equal(called, wasCalled) {
				t.Fatalf("what %s of %s told has changed behind it", c, s)
			}
		}
	}
}

// scribble writes over a list, and over what there is room for behind it.
func scribble(l []api.Claim) {
	l = l[:cap(l)]
	for i := range l {
		l[i] = api.Claim{Node: -77, Mode: -77}
	}
}

// R3: what is told is its owner's: whatever is done to one list has no effect on another one, nor on what is told later.
func TestToldIsItsOwners(t *testing.T) {
	for _, s := range queues {
		for _, c := range changes([]int{-1, 0, 1, 2, 3, 4, 8}, []int{0, 1, 2, 3}) {
			q := queueOf(s)
			wasNext, wasTold := ask(q, c)
			wasCalled := queue.Calls(q)
			for spoilt := range 4 {
				next, told := ask(q, c)
				called := queue.Calls(q)
				got := [][]api.Claim{next.Has, next.Waits, told, called}
				scribble(got[spoilt])
				for i, want := range [][]api.Claim{wasNext.Has, wasNext.Waits, wasTold, wasCalled} {
					if i != spoilt && !slices.Equal(got[i], want) {
						t.Fatalf("list %d of %s of %s lies in list %d", i, c, s, spoilt)
					}
				}
				if !equal(q, queueOf(s)) {
					t.Fatalf("list %d of %s of %s lies in what was handed in", spoilt, c, s)
				}
			}
		}
	}
}

// R3: changes of one queue, one beside the other, have no effect on each other.
func TestChangesBesideEachOther(t *testing.T) {
	for _, s := range queues {
		all := changes([]int{0, 1, 2, 3, 4}, []int{0, 1, 2})
		root := queueOf(s)
		base, _ := queue.Want(root, 6, api.Share)
		was := clone(base)
		var next []api.Queue
		for _, c := range all {
			q, _ := ask(base, c)
			next = append(next, q)
		}
		for i, c := range all {
			q, _ := ask(was, c)
			if !equal(next[i], q) {
				t.Fatalf("%s of %s has become %s, not %s", c, text(was), text(next[i]), text(q))
			}
		}
		if !equal(base, was) || !equal(root, queueOf(s)) {
			t.Fatalf("%s has become %s", text(was), text(base))
		}
	}
}
