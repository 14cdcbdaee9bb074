package master_test

import (
	"math"
	"slices"
	"strings"
	"testing"

	"lockgate/api"
	"lockgate/master"
)

// scribble writes over a list, and over what there is room for behind it.
func scribble[T any](l []T, x T) {
	l = l[:cap(l)]
	for i := range l {
		l[i] = x
	}
}

// What lists are scribbled over with.
var (
	ink     = api.Note{Kind: -77, Epoch: -77, Res: -77, Mode: -77, Seq: -77}
	inkTold = api.Told{Node: -77, Note: ink}
	inkHad  = api.Claim{Node: -77, Mode: -77}
)

// R3: what a table tells is its owner's: whatever is done to it has no effect on what the table tells later (as the model tells that), nor on other lists.
func TestTableToldIsItsOwners(t *testing.T) {
	tableScripts(t, 103, func(table *master.Table, _ from, told []api.Told) {
		scribble(told, inkTold)
		was, again := table.Nudge(), table.Nudge()
		wasText := toldText(was)
		scribble(again, inkTold)
		if got := toldText(was); got != wasText {
			t.Fatalf("Nudge has told %s, and that is %s now", wasText, got)
		}
		for res := range 3 {
			q, other := table.Queue(res), table.Queue(res)
			wasText := queueText(q)
			scribble(other.Has, inkHad)
			if got := claimsText(other.Waits); got != claimsText(q.Waits) {
				t.Fatalf("of %s, what waits is %s, once what has is written over", wasText, got)
			}
			scribble(other.Waits, inkHad)
			if got := queueText(q) + queueText(table.Queue(res)); got != wasText+wasText {
				t.Fatalf("Queue has told %s, and that is %s now", wasText, got)
			}
		}
	})
}

// R3: what a table has told doesn't change later.
func TestTableToldStays(t *testing.T) {
	var kept [][]api.Told
	var queues []api.Queue
	var texts, queueTexts []string
	tableScripts(t, 105, func(table *master.Table, _ from, told []api.Told) {
		for _, l := range [][]api.Told{told, table.Nudge()} {
			kept, texts = append(kept, l), append(texts, toldText(l))
		}
		q := table.Queue(0)
		queues, queueTexts = append(queues, q), append(queueTexts, queueText(q))
	})
	for i, l := range kept {
		if got := toldText(l); got != texts[i] {
			t.Fatalf("%s was told, and that is %s now", texts[i], got)
		}
	}
	for i, q := range queues {
		if got := queueText(q); got != queueTexts[i] {
			t.Fatalf("%s was told, and that is %s now", queueTexts[i], got)
		}
	}
}

// R3: what a holder tells is its owner's, and doesn't change later.
func TestHolderToldIsItsOwners(t *testing.T) {
	var kept [][]api.Note
	var texts []string
	holderScripts(t, 106, func(h *master.Holder, a act, told []api.Note) {
		l := h.Again()
		if a.Seq%2 == 0 {
			scribble(told, ink)
			scribble(l, ink)
			return
		}
		for _, l := range [][]api.Note{told, l} {
			kept, texts = append(kept, l), append(texts, notesText(l))
		}
	})
	for i, l := range kept {
		if got := notesText(l); got != texts[i] {
			t.Fatalf("%s was told, and that is %s now", texts[i], got)
		}
	}
}

// R3: tables and holders have nothing to do with each other, also not what one has with what it was ahead.
func TestApart(t *testing.T) {
	one, other := master.New(here, 2), master.New(here, 2)
	h, g := master.Hold(here, 2), master.Hold(here, 2)
	for _, do := range []string{"1:Wa1", "2:Ws5", "3:Ws6@1"} {
		tableSays(one, do)
	}
	for _, do := range []string{"want a", "Ga1", "Cs1", "want s 1"} {
		holderSays(h, do)
	}
	plays(t, func(do string) string { return tableSays(other, do) }, script{{"nudge", ""}, {"queue 0", "|"}, {"queue 1", "|"}, {"2:Wa1", "2:Ga1"}, {"1:Ws1", "2:Cs1"}})
	plays(t, func(do string) string { return holderSays(g, do) }, script{{"again", ""}, {"is", "n n -"}, {"is 1", "n n -"}, {"want s", "Ws1"}})
	plays(t, func(do string) string { return tableSays(one, do) }, script{{"nudge", "1:Cs1"}, {"queue 0", "1a|2s"}, {"queue 1", "3s|"}})
	plays(t, func(do string) string { return holderSays(h, do) }, script{{"again", "Ws1@1"}, {"is", "a n s"}, {"is 1", "n s -"}})
}

// R3: Of leaves the members as they were.
func TestMembersStay(t *testing.T) {
	whole := []int{4, 2, 9, 7, 7, 7}
	was := slices.Clone(whole)
	for res := -3; res < 20; res++ {
		master.Of(res, whole[:3])
	}
	if !slices.Equal(whole, was) {
		t.Errorf("the members are %v now", whole)
	}
}

// R4: the same calls have the same answers.
func TestSameAgain(t *testing.T) {
	var all [2][]string
	for i := range all {
		tableScripts(t, 107, func(table *master.Table, _ from, told []api.Told) {
			all[i] = append(all[i], toldText(told)+" "+toldText(table.Nudge())+" "+queueText(table.Queue(0)))
		})
		holderScripts(t, 108, func(h *master.Holder, _ act, told []api.Note) {
			all[i] = append(all[i], notesText(told)+" "+notesText(h.Again())+" "+state(h, 0))
		})
		for _, n := range some() {
			s, e := master.Bytes(n)
			all[i] = append(all[i], s+e.Error())
		}
	}
	if !slices.Equal(all[0], all[1]) {
		t.Error("the same calls have told other things the second time")
	}
}

// P1: every call ends, whatever it is given.
func TestAnyArguments(t *testing.T) {
	numbers := slices.Concat([]int{0, 1, 2, 3, 5, 7, 15, here}, noModes, farNodes, farRes, []int{api.MaxEpoch, api.MaxEpoch + 1})
	d := draws(11)
	pick := func() int { return numbers[d.below(len(numbers))] }
	tables, holders := []*master.Table{nil, {}}, []*master.Holder{nil, {}}
	for range 200 {
		tables, holders = append(tables, master.New(pick(), pick())), append(holders, master.Hold(pick(), pick()))
	}
	for range 200000 {
		n := api.Note{Kind: pick(), Epoch: pick(), Res: pick(), Mode: pick(), Seq: pick()}
		if s, e := master.Bytes(n); (e == api.OK) != (len(s) == 22) || (e == api.OK) != right(n, n.Epoch, 16) {
			t.Fatalf("Bytes of %v tells %x, %d", n, s, e)
		}
		table, h := tables[d.below(len(tables))], holders[d.below(len(holders))]
		table.Hear(pick(), n)
		table.Nudge()
		table.Queue(pick())
		h.Want(pick(), pick())
		h.Drop(pick(), pick())
		h.Hear(n)
		h.Mode(pick())
		h.Wants(pick())
		h.Called(pick())
		h.Again()
		master.Of(pick(), numbers[:d.below(4)])
	}
}

// R5, P1: long lists and texts are answered.
func TestLong(t *testing.T) {
	members := make([]int, 400000)
	for i := range members {
		members[i] = i % 8
	}
	for _, res := range []int{0, 5, 399999, 400003, math.MaxInt} {
		if got := master.Of(res, members); got != res%400000%8 {
			t.Errorf("Of %d tells %d", res, got)
		}
	}
	if got := master.Of(-1, members); got != -1 {
		t.Errorf("Of -1 tells %d", got)
	}
	isNone(t, strings.Repeat(bytesOf(noteOf("Wa5")), 400000))
	isNone(t, bytesOf(noteOf("Wa5"))+strings.Repeat("\x00", 1<<24))
}
