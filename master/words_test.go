package master_test

import (
	"math"
	"slices"
	"strconv"
	"strings"
	"testing"

	"lockgate/api"
	"lockgate/master"
)

// here is the epoch of notes in which no other one is named.
const here = 3

// The letters of kinds and modes, by their numbers.
const (
	kinds = "?WDGCB"
	modes = "nsa"
)

// noModes, farNodes and farRes are numbers that are no modes, no nodes, no resources.
var (
	noModes  = []int{math.MinInt, -1 << 32, -1, 3, 4, 8, 1 << 16, 1<<32 + 1, math.MaxInt}
	farNodes = []int{math.MinInt, -1 << 32, -8, -1, 8, 9, 16, 1<<32 + 1, math.MaxInt}
	farRes   = []int{math.MinInt, -1 << 32, -16, -1, 16, 17, 1 << 16, 1<<32 + 1, math.MaxInt}
)

// number is what a text of digits says.
func number(s string) int {
	n, err := strconv.Atoi(s)
	if err != nil {
		panic("no number: " + s)
	}
	return n
}

// noteOf is the note of a text: the letters of kind and mode, Seq, and, behind @, a resource other than 0.
func noteOf(s string) api.Note {
	s, res, other := strings.Cut(s, "@")
	n := api.Note{Kind: strings.Index(kinds, s[:1]), Epoch: here, Mode: strings.Index(modes, s[1:2]), Seq: number(s[2:])}
	if other {
		n.Res = number(res)
	}
	return n
}

// letter is that of a number; the number, if it has none.
func letter(letters string, n int) string {
	if n < 0 || n >= len(letters) {
		return "(" + strconv.Itoa(n) + ")"
	}
	return letters[n : n+1]
}

// noteText is noteOf the other way round.
func noteText(n api.Note) string {
	s := letter(kinds, n.Kind) + letter(modes, n.Mode) + strconv.Itoa(n.Seq)
	if n.Res != 0 {
		s += "@" + strconv.Itoa(n.Res)
	}
	if n.Epoch != here {
		s += " of " + strconv.Itoa(n.Epoch)
	}
	return s
}

// notesText is a list of notes.
func notesText(l []api.Note) string {
	var s []string
	for _, n := range l {
		s = append(s, noteText(n))
	}
	return strings.Join(s, " ")
}

// toldText is a list of notes with the nodes that they are for.
func toldText(l []api.Told) string {
	var s []string
	for _, told := range l {
		s = append(s, strconv.Itoa(told.Node)+":"+noteText(told.Note))
	}
	return strings.Join(s, " ")
}

// claimsText is a list of claims.
func claimsText(l []api.Claim) string {
	var s []string
	for _, c := range l {
		s = append(s, strconv.Itoa(c.Node)+letter(modes, c.Mode))
	}
	return strings.Join(s, " ")
}

// queueText is a queue: who has it, and who waits.
func queueText(q api.Queue) string { return claimsText(q.Has) + "|" + claimsText(q.Waits) }

// tableSays has a table do what a text says, and is what that told: `1:Wa5` hears node 1's note, `nudge`, `queue 2`.
func tableSays(t *master.Table, do string) string {
	node, note, heard := strings.Cut(do, ":")
	word, res, _ := strings.Cut(do, " ")
	switch {
	case heard:
		return toldText(t.Hear(number(node), noteOf(note)))
	case word == "nudge":
		return toldText(t.Nudge())
	}
	return queueText(t.Queue(number(res)))
}

// said is what a call that may say no has told.
func said(n api.Note, ok bool) string {
	switch {
	case ok:
		return noteText(n)
	case n != api.Note{}:
		return "no, but " + noteText(n)
	}
	return "no"
}

// state is what a holder has, wants and is called to.
func state(h *master.Holder, res int) string {
	s := letter(modes, h.Mode(res)) + " " + letter(modes, h.Wants(res)) + " "
	m, called := h.Called(res)
	switch {
	case called:
		return s + letter(modes, m)
	case m != api.None:
		return s + "no, but " + letter(modes, m)
	}
	return s + "-"
}

// holderSays has a holder do what a text says, and is what that told: `want a 2`, `drop n 2`, `again`, `is 2`, or a note that is heard.
func holderSays(h *master.Holder, do string) string {
	words := strings.Fields(do + " 0")
	switch words[0] {
	case "want":
		return said(h.Want(number(words[2]), strings.Index(modes, words[1])))
	case "drop":
		return said(h.Drop(number(words[2]), strings.Index(modes, words[1])))
	case "is":
		return state(h, number(words[1]))
	case "again":
		return notesText(h.Again())
	}
	return notesText(h.Hear(noteOf(words[0])))
}

// line is what is to be done, and what it is to tell.
type line struct{ do, told string }

// script is done line by line.
type script []line

// plays fails the test, if a line of a script tells anything else.
func plays(t *testing.T, says func(do string) string, s script) {
	t.Helper()
	var done []string
	for _, l := range s {
		if got := says(l.do); got != l.told {
			t.Errorf("behind %q, %q tells %q, not %q", strings.Join(done, ", "), l.do, got, l.told)
			return
		}
		done = append(done, l.do)
	}
}

// atTable plays scripts at tables of three resources, each at a new one.
func atTable(t *testing.T, all ...script) {
	t.Helper()
	for _, s := range all {
		table := master.New(here, 3)
		plays(t, func(do string) string { return tableSays(table, do) }, s)
	}
}

// atHolder plays scripts at holders of three resources, each at a new one.
func atHolder(t *testing.T, all ...script) {
	t.Helper()
	for _, s := range all {
		h := master.Hold(here, 3)
		plays(t, func(do string) string { return holderSays(h, do) }, s)
	}
}

// draws are numbers that look like chance, the same at each run.
type draws uint64

func (d *draws) below(n int) int {
	*d = *d*6364136223846793005 + 1442695040888963407
	return int(uint64(*d) >> 33 % uint64(n))
}

// The words of the tests say the same both ways.
func TestWords(t *testing.T) {
	for _, s := range []string{"Wa5", "Gn0", "Cs12@2", "Bn1@15", "Ds1"} {
		if got := noteText(noteOf(s)); got != s {
			t.Errorf("%q is %q", s, got)
		}
	}
	if n := noteOf("Cs12@2"); n != (api.Note{Kind: api.NoteCall, Epoch: here, Res: 2, Mode: api.Share, Seq: 12}) {
		t.Errorf("Cs12@2 is %v", n)
	}
	if n := noteOf("Wa5"); n != (api.Note{Kind: api.NoteWant, Epoch: here, Mode: api.Alone, Seq: 5}) {
		t.Errorf("Wa5 is %v", n)
	}
	if slices.Contains(noModes, api.Alone) {
		t.Error("Alone is a mode")
	}
}

// The chapter's examples.
func TestExamples(t *testing.T) {
	h, table := master.Hold(1, 2), master.New(1, 2)
	n, ok := h.Want(0, api.Alone)
	if n != (api.Note{Kind: api.NoteWant, Epoch: 1, Mode: api.Alone, Seq: 1}) || !ok {
		t.Errorf("Want tells %v, %t", n, ok)
	}
	told := table.Hear(4, n)
	grant := api.Note{Kind: api.NoteGrant, Epoch: 1, Mode: api.Alone, Seq: 1}
	if !slices.Equal(told, []api.Told{{Node: 4, Note: grant}}) {
		t.Errorf("the table's Hear tells %v", told)
	}
	if l := h.Hear(grant); len(l) > 0 || h.Mode(0) != api.Alone {
		t.Errorf("the Grant has %v told, and %d had", l, h.Mode(0))
	}
	told = table.Hear(2, api.Note{Kind: api.NoteWant, Epoch: 1, Mode: api.Share, Seq: 1})
	call := api.Note{Kind: api.NoteCall, Epoch: 1, Mode: api.Share, Seq: 1}
	if !slices.Equal(told, []api.Told{{Node: 4, Note: call}}) {
		t.Errorf("another node's Want tells %v", told)
	}
	l := h.Hear(call)
	if m, ok := h.Called(0); len(l) > 0 || m != api.Share || !ok {
		t.Errorf("the Call has %v told, and called to is %d, %t", l, m, ok)
	}
}
