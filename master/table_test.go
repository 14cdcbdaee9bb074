package master_test

import (
	"math"
	"slices"
	"strconv"
	"testing"

	"lockgate/api"
	"lockgate/master"
)

// P10.2: who wants gets, if it fits; who doesn't, waits, and those who stand against the first one are called, each with its own last.
func TestWants(t *testing.T) {
	atTable(t,
		script{{"1:Wa1", "1:Ga1"}, {"queue 0", "1a|"}},
		script{{"1:Ws1", "1:Gs1"}, {"2:Ws7", "2:Gs7"}, {"queue 0", "1s 2s|"}},
		script{{"0:Wa9", "0:Ga9"}, {"7:Ws2", "0:Cs9"}, {"queue 0", "0a|7s"}},
		script{{"1:Wa1", "1:Ga1"}, {"2:Wa4", "1:Cn1"}, {"3:Ws5", "1:Cn1"}, {"queue 0", "1a|2a 3s"}},
		script{{"5:Ws5", "5:Gs5"}, {"3:Ws3", "3:Gs3"}, {"4:Ws4", "4:Gs4"}, {"2:Wa2", "3:Cn3 4:Cn4 5:Cn5"}, {"queue 0", "3s 4s 5s|2a"}},
		script{{"1:Ws1", "1:Gs1"}, {"1:Wa2", "1:Ga2"}, {"queue 0", "1a|"}},
		script{{"1:Ws1", "1:Gs1"}, {"2:Ws1", "2:Gs1"}, {"1:Wa2", "2:Cn1"}, {"queue 0", "1s 2s|1a"}, {"2:Wa8", "2:Cn8"}, {"queue 0", "1s 2s|1a 2a"}},
		script{{"1:Wa1099511627776", "1:Ga1099511627776"}, {"2:Ws1", "1:Cs1099511627776"}},
	)
}

// P10.2: who wants what it has, or less, with a new Seq, gets what it has, with that Seq, and the others are called once more.
func TestWantsWhatItHas(t *testing.T) {
	atTable(t,
		script{{"1:Ws1", "1:Gs1"}, {"1:Ws2", "1:Gs2"}, {"queue 0", "1s|"}},
		script{{"1:Wa1", "1:Ga1"}, {"1:Ws2", "1:Ga2"}, {"queue 0", "1a|"}},
		script{{"1:Ws1", "1:Gs1"}, {"2:Wa1", "1:Cn1"}, {"1:Ws2", "1:Gs2 1:Cn2"}, {"queue 0", "1s|2a"}},
		script{{"1:Ws1", "1:Gs1"}, {"2:Ws1", "2:Gs1"}, {"1:Wa2", "2:Cn1"}, {"1:Ws3", "1:Gs3 2:Cn1"}, {"queue 0", "1s 2s|1a"}, {"2:Dn2", "1:Ga3"}},
	)
}

// P10.2: a Want with a Seq below the last is nothing; with the last, it is answered, if the node has enough, and changes nothing; above, it counts.
func TestWantsAgain(t *testing.T) {
	atTable(t,
		script{{"1:Ws5", "1:Gs5"}, {"1:Ws4", ""}, {"1:Wa4", ""}, {"1:Wa0", ""}, {"1:Ws5", "1:Gs5"}, {"1:Ws5", "1:Gs5"}, {"1:Wa5", ""}, {"queue 0", "1s|"}, {"1:Wa6", "1:Ga6"}, {"queue 0", "1a|"}},
		script{{"1:Wa5", "1:Ga5"}, {"1:Ws5", "1:Ga5"}, {"1:Wa5", "1:Ga5"}, {"1:Ws4", ""}, {"1:Wa4", ""}, {"1:Ws6", "1:Ga6"}, {"1:Wa5", ""}},
		script{{"1:Wa1", "1:Ga1"}, {"2:Ws3", "1:Cs1"}, {"2:Ws3", ""}, {"2:Wa3", ""}, {"2:Wa2", ""}, {"queue 0", "1a|2s"}, {"1:Wa1", "1:Ga1"}, {"1:Dn2", "2:Gs3"}, {"2:Ws3", "2:Gs3"}, {"2:Wa3", ""}, {"queue 0", "2s|"}},
		script{{"1:Ws0", ""}, {"1:Wa0", ""}, {"queue 0", "|"}, {"1:Wa1", "1:Ga1"}, {"1:Wa0", ""}},
		script{{"1:Ws1", "1:Gs1"}, {"2:Wa1", "1:Cn1"}, {"1:Ws1", "1:Gs1"}, {"1:Wa1", ""}, {"queue 0", "1s|2a"}},
	)
}

// P10.2: a Want of None is nothing, whatever its Seq is, and doesn't count.
func TestWantsNone(t *testing.T) {
	atTable(t,
		script{{"1:Wn5", ""}, {"1:Wa2", "1:Ga2"}, {"1:Wn2", ""}, {"1:Wn1", ""}, {"1:Wn9", ""}, {"queue 0", "1a|"}, {"1:Wa2", "1:Ga2"}, {"1:Ws3", "1:Ga3"}},
		script{{"1:Wa1", "1:Ga1"}, {"2:Wa1", "1:Cn1"}, {"3:Wn1", ""}, {"2:Wn2", ""}, {"1:Wn2", ""}, {"queue 0", "1a|2a"}, {"1:Dn2", "2:Ga1"}},
		script{{"1:Wn0", ""}, {"queue 0", "|"}},
	)
}

// P10.2: who wants anew just what it waits for keeps its place, and the Grant bears the new Seq; who wants something else goes behind all others, unless it is the first one.
func TestWaitsAlready(t *testing.T) {
	start := script{{"1:Wa1", "1:Ga1"}, {"2:Ws2", "1:Cs1"}, {"3:Ws3", "1:Cs1"}, {"4:Wa4", "1:Cs1"}}
	for _, s := range []script{
		{{"3:Ws9", "1:Cs1"}, {"queue 0", "1a|2s 3s 4a"}, {"1:Dn2", "2:Gs2 3:Gs9 2:Cn2 3:Cn9"}},
		{{"2:Ws9", "1:Cs1"}, {"queue 0", "1a|2s 3s 4a"}, {"1:Ds2", "2:Gs9 3:Gs3 1:Cn2 2:Cn9 3:Cn3"}},
		{{"4:Wa9", "1:Cs1"}, {"4:Wa10", "1:Cs1"}, {"4:Wa9", ""}, {"queue 0", "1a|2s 3s 4a"}},
		{{"3:Wa9", "1:Cs1"}, {"queue 0", "1a|2s 4a 3a"}, {"1:Dn2", "2:Gs2 2:Cn2"}, {"2:Dn3", "4:Ga4 4:Cn4"}},
		{{"2:Wa9", "1:Cn1"}, {"queue 0", "1a|2a 3s 4a"}, {"2:Wa10", "1:Cn1"}, {"queue 0", "1a|2a 3s 4a"}, {"1:Dn2", "2:Ga10 2:Cs10"}},
		{{"4:Ws9", "1:Cs1"}, {"queue 0", "1a|2s 3s 4s"}, {"1:Ds2", "2:Gs2 3:Gs3 4:Gs9"}},
	} {
		atTable(t, slices.Concat(start, s))
	}
}

// P10.2: a Drop with a Seq above the last counts, whatever the node has; with the last or below it, it is nothing.
func TestDrops(t *testing.T) {
	atTable(t,
		script{{"1:Wa3", "1:Ga3"}, {"1:Dn2", ""}, {"1:Dn3", ""}, {"1:Dn0", ""}, {"queue 0", "1a|"}, {"1:Ds4", ""}, {"queue 0", "1s|"}, {"1:Dn4", ""}, {"queue 0", "1s|"}, {"1:Dn5", ""}, {"queue 0", "|"}},
		script{{"1:Ws1", "1:Gs1"}, {"1:Da2", ""}, {"1:Ds3", ""}, {"queue 0", "1s|"}, {"1:Ws2", ""}, {"1:Ws3", "1:Gs3"}},
		script{{"4:Dn3", ""}, {"4:Da4", ""}, {"queue 0", "|"}, {"4:Wa3", ""}, {"4:Wa4", ""}, {"4:Wa5", "4:Ga5"}},
		script{{"4:Dn0", ""}, {"4:Wa1", "4:Ga1"}},
		script{{"1:Wa1", "1:Ga1"}, {"2:Ws2", "1:Cs1"}, {"3:Dn3", "1:Cs1"}, {"2:Dn3", "1:Cs1"}, {"1:Da2", "1:Cs2"}, {"1:Dn2", ""}, {"queue 0", "1a|2s"}, {"1:Ds3", "2:Gs3"}, {"queue 0", "1s 2s|"}},
		script{{"1:Ws1", "1:Gs1"}, {"2:Ws1", "2:Gs1"}, {"1:Wa2", "2:Cn1"}, {"1:Dn3", "2:Cn1"}, {"queue 0", "2s|1a"}, {"2:Dn2", "1:Ga3"}, {"queue 0", "1a|"}},
	)
}

// P10.2: all that a Drop has be served get their Grants in the order in which they waited; who stands against the next one is called behind that, by rising nodes.
func TestOrder(t *testing.T) {
	start := script{{"1:Wa1", "1:Ga1"}, {"5:Ws50", "1:Cs1"}, {"0:Ws60", "1:Cs1"}, {"4:Ws40", "1:Cs1"}, {"2:Wa20", "1:Cs1"}, {"3:Ws30", "1:Cs1"}}
	atTable(t,
		append(slices.Clone(start), line{"1:Dn2", "5:Gs50 0:Gs60 4:Gs40 0:Cn60 4:Cn40 5:Cn50"}, line{"queue 0", "0s 4s 5s|2a 3s"}),
		append(slices.Clone(start), line{"1:Ds2", "5:Gs50 0:Gs60 4:Gs40 0:Cn60 1:Cn2 4:Cn40 5:Cn50"}, line{"queue 0", "0s 1s 4s 5s|2a 3s"},
			line{"4:Dn41", "0:Cn60 1:Cn2 5:Cn50"}, line{"0:Dn61", "1:Cn2 5:Cn50"}, line{"5:Dn51", "1:Cn2"}, line{"1:Dn3", "2:Ga20 2:Cs20"}, line{"2:Ds21", "3:Gs30"}),
	)
}

// P10.2: resources have nothing to do with each other, nor their lasts.
func TestResourcesApart(t *testing.T) {
	atTable(t,
		script{{"1:Wa9@1", "1:Ga9@1"}, {"1:Wa1", "1:Ga1"}, {"1:Ws2@2", "1:Gs2@2"}, {"2:Wa3@2", "1:Cn2@2"}, {"2:Wa4@1", "1:Cn9@1"}, {"1:Dn3@2", "2:Ga3@2"}, {"2:Wa5", "1:Cn1"},
			{"queue 0", "1a|2a"}, {"queue 1", "1a|2a"}, {"queue 2", "2a|"}, {"1:Dn9@1", ""}, {"1:Dn9", "2:Ga5"}, {"queue 1", "1a|2a"}},
	)
}

// busy is a table of three resources, each of which is had and waited for.
func busy() *master.Table {
	t := master.New(here, 3)
	for _, s := range []string{"1:Wa5", "2:Ws6", "3:Ws7@1", "4:Ws8@1", "5:Wa9@1", "6:Wa3@2", "7:Wa3@2", "6:Ds4@2"} {
		tableSays(t, s)
	}
	return t
}

// busyText is what is to be seen of such a table: its queues, its Calls, and, by Wants that it has heard already, its lasts.
func busyText(t *master.Table) string {
	s := toldText(t.Nudge())
	for res := range api.MaxRes {
		s += ", " + queueText(t.Queue(res))
	}
	for _, do := range []string{"1:Ws5", "2:Ws6", "3:Ws7@1", "4:Ws8@1", "6:Ws4@2"} {
		s += ", " + tableSays(t, do)
	}
	return s
}

// deaf fails the test, if a table tells or does anything, once it hears a note.
func deaf(t *testing.T, node int, n api.Note) {
	t.Helper()
	table := busy()
	if got := table.Hear(node, n); len(got) > 0 {
		t.Errorf("%v of node %d: %s", n, node, toldText(got))
	}
	if got, want := busyText(table), busyText(busy()); got != want {
		t.Errorf("%v of node %d leaves %s, not %s", n, node, got, want)
	}
}

// P10.2: what a table hears that isn't for it is nothing: nodes that are none, other kinds, epochs and resources, notes that may not be.
func TestTableIsDeaf(t *testing.T) {
	if got := busyText(busy()); got != "1:Cs5 3:Cn7@1 4:Cn8@1 6:Cn4@2, 1a|2s, 3s 4s|5a, 6s|7a"+", |, |, |, |, |, |, |, |, |, |, |, |, |"+", 1:Ga5, , 3:Gs7@1, 4:Gs8@1, 6:Gs4@2" {
		t.Fatalf("there is %s", got)
	}
	for _, n := range []api.Note{noteOf("Wa50"), noteOf("Dn50"), noteOf("Wa50@1"), noteOf("Dn50@1")} {
		for _, node := range farNodes {
			deaf(t, node, n)
		}
		for node := range api.MaxNodes {
			for _, kind := range []int{math.MinInt, -1, 0, api.NoteGrant, api.NoteCall, api.NoteBeat, 6, 1<<32 + 1, math.MaxInt} {
				other := n
				other.Kind = kind
				deaf(t, node, other)
			}
			for _, epoch := range []int{math.MinInt, -here, -1, 0, here - 1, here + 1, api.MaxEpoch, 1<<32 + here, math.MaxInt} {
				other := n
				other.Epoch = epoch
				deaf(t, node, other)
			}
			for _, res := range append([]int{3, 4, 15}, farRes...) {
				other := n
				other.Res = res
				deaf(t, node, other)
			}
			for _, m := range noModes {
				other := n
				other.Mode = m
				deaf(t, node, other)
			}
			for _, seq := range []int{math.MinInt, -1, api.MaxEpoch + 1, 1 << 48, math.MaxInt} {
				other := n
				other.Seq = seq
				deaf(t, node, other)
			}
		}
	}
}

// sizes are numbers of resources that are asked for, and those that there are.
var sizes = [][2]int{{math.MinInt, 1}, {-1 << 32, 1}, {-1, 1}, {0, 1}, {1, 1}, {2, 2}, {3, 3}, {15, 15}, {16, 16}, {17, 16}, {1<<32 + 2, 16}, {math.MaxInt, 16}}

// P10.2, P10.3: a table has as many resources as were asked for, from 1 to 16.
func TestTableSizes(t *testing.T) {
	for _, size := range sizes {
		table := master.New(here, size[0])
		for res := range api.MaxRes {
			want, queue := "", "|"
			if res < size[1] {
				want, queue = noteText(api.Note{Kind: api.NoteGrant, Epoch: here, Res: res, Mode: api.Alone, Seq: 1}), "7a|"
			}
			if got := notesOf(table.Hear(7, api.Note{Kind: api.NoteWant, Epoch: here, Res: res, Mode: api.Alone, Seq: 1}), 7); got != want {
				t.Errorf("resource %d of %d: %q is told", res, size[0], got)
			}
			if got := queueText(table.Queue(res)); got != queue {
				t.Errorf("resource %d of %d has %s", res, size[0], got)
			}
		}
		for _, res := range farRes {
			if got := queueText(table.Queue(res)); got != "|" {
				t.Errorf("resource %d of %d has %s", res, size[0], got)
			}
		}
	}
}

// notesOf are those of a node, which are to be all that are told.
func notesOf(l []api.Told, node int) string {
	var notes []api.Note
	for _, told := range l {
		if told.Node != node {
			return "something for " + strconv.Itoa(told.Node)
		}
		notes = append(notes, told.Note)
	}
	return notesText(notes)
}

// P10.2: a table's epoch is that of all that it hears and tells; with one that no note may have, it hears nothing.
func TestTableEpochs(t *testing.T) {
	for _, epoch := range []int{0, 1, here, api.MaxEpoch, -1, api.MaxEpoch + 1, math.MinInt, math.MaxInt} {
		table := master.New(epoch, 2)
		want := ""
		if epoch >= 0 && epoch <= api.MaxEpoch {
			want = noteText(api.Note{Kind: api.NoteGrant, Epoch: epoch, Res: 1, Mode: api.Share, Seq: 2})
		}
		for _, other := range []int{0, 1, 2, here, api.MaxEpoch, -1, api.MaxEpoch + 1, math.MinInt, math.MaxInt} {
			got := notesOf(table.Hear(4, api.Note{Kind: api.NoteWant, Epoch: other, Res: 1, Mode: api.Share, Seq: 2}), 4)
			if other == epoch && got != want || other != epoch && got != "" {
				t.Errorf("a table of epoch %d hears one of %d, and tells %q", epoch, other, got)
			}
		}
	}
}

// P10.3: Nudge tells the Calls of all resources, by rising ones, each with the last of the node that it is for, as often as it is asked.
func TestNudge(t *testing.T) {
	atTable(t,
		script{{"nudge", ""}, {"1:Wa1", "1:Ga1"}, {"nudge", ""}},
		script{
			{"3:Ws3@2", "3:Gs3@2"}, {"6:Ws6@2", "6:Gs6@2"}, {"5:Wa5@2", "3:Cn3@2 6:Cn6@2"}, {"nudge", "3:Cn3@2 6:Cn6@2"},
			{"1:Wa1", "1:Ga1"}, {"2:Ws1", "1:Cs1"}, {"nudge", "1:Cs1 3:Cn3@2 6:Cn6@2"}, {"nudge", "1:Cs1 3:Cn3@2 6:Cn6@2"},
			{"7:Ws7@1", "7:Gs7@1"}, {"6:Wa1@1", "7:Cn7@1"}, {"1:Wa9", "1:Ga9 1:Cs9"}, {"nudge", "1:Cs9 7:Cn7@1 3:Cn3@2 6:Cn6@2"},
			{"6:Dn7@2", "3:Cn3@2"}, {"nudge", "1:Cs9 7:Cn7@1 3:Cn3@2"}, {"3:Dn4@2", "5:Ga5@2"}, {"nudge", "1:Cs9 7:Cn7@1"},
			{"queue 0", "1a|2s"}, {"queue 1", "7s|6a"}, {"queue 2", "5a|"},
		},
	)
	table := master.New(here, 16)
	for res := range api.MaxRes {
		for node := range 3 {
			table.Hear(node, api.Note{Kind: api.NoteWant, Epoch: here, Res: 15 - res, Mode: api.Alone, Seq: 100*node + res + 1})
		}
	}
	want := ""
	for res := range api.MaxRes {
		want += " 0:" + noteText(api.Note{Kind: api.NoteCall, Epoch: here, Res: res, Seq: 16 - res})
	}
	if got := " " + toldText(table.Nudge()); got != want {
		t.Errorf("of sixteen resources, %s is told", got)
	}
}

// P10.2, P10.3: a nil table and a zero one tell nothing.
func TestNoTable(t *testing.T) {
	for _, table := range []*master.Table{nil, {}} {
		for _, epoch := range []int{0, 1, here} {
			for kind := range 7 {
				for res := range api.MaxRes {
					if got := table.Hear(1, api.Note{Kind: kind, Epoch: epoch, Res: res, Mode: api.Alone, Seq: 5}); len(got) > 0 {
						t.Errorf("Hear tells %s", toldText(got))
					}
				}
			}
		}
		if got := table.Nudge(); len(got) > 0 {
			t.Errorf("Nudge tells %s", toldText(got))
		}
		for _, res := range append([]int{0, 1, 15}, farRes...) {
			if got := queueText(table.Queue(res)); got != "|" {
				t.Errorf("Queue tells %s", got)
			}
		}
	}
}
