package master_test

import (
	"slices"
	"testing"

	"lockgate/api"
	"lockgate/master"
)

// fit tells whether two nodes may have a and b.
func fit(a, b int) bool { return a == 0 || b == 0 || a == 1 && b == 1 }

// tableModel is a table as the chapter words it, kept in another way: by resource and node what it has, what it waits for, and its last; and who waits, in order.
type tableModel struct {
	epoch, res      int
	has, wish, last [16][8]int
	row             [16][]int
}

// right tells whether a note may be, and is of that epoch and of one of so many resources.
func right(n api.Note, epoch, res int) bool {
	may := n.Kind >= 1 && n.Kind <= 5 && n.Epoch >= 0 && n.Epoch <= 1<<40 && n.Seq >= 0 && n.Seq <= 1<<40 && n.Mode >= 0 && n.Mode <= 2
	return may && n.Epoch == epoch && n.Res >= 0 && n.Res < res
}

// tell is a note to a node, which bears its last.
func (m *tableModel) tell(kind, res, node, mode int) api.Told {
	return api.Told{Node: node, Note: api.Note{Kind: kind, Epoch: m.epoch, Res: res, Mode: mode, Seq: m.last[res][node]}}
}

// against are the nodes that stand against the first one that waits.
func (m *tableModel) against(res int) []int {
	if len(m.row[res]) == 0 {
		return nil
	}
	var l []int
	first := m.row[res][0]
	for node := range 8 {
		if node != first && !fit(m.has[res][node], m.wish[res][first]) {
			l = append(l, node)
		}
	}
	return l
}

// calls are those to these nodes.
func (m *tableModel) calls(res int) []api.Told {
	var l []api.Told
	for _, node := range m.against(res) {
		rest := 0
		if m.wish[res][m.row[res][0]] == 1 {
			rest = 1
		}
		l = append(l, m.tell(4, res, node, rest))
	}
	return l
}

// serve serves a resource's queue.
func (m *tableModel) serve(res int) []api.Told {
	var l []api.Told
	for len(m.row[res]) > 0 && len(m.against(res)) == 0 {
		node := m.row[res][0]
		m.row[res] = m.row[res][1:]
		m.has[res][node], m.wish[res][node] = m.wish[res][node], 0
		l = append(l, m.tell(3, res, node, m.has[res][node]))
	}
	return l
}

// want is what queue.Want does, and tells.
func (m *tableModel) want(res, node, mode int) []api.Told {
	if m.has[res][node] >= mode {
		return []api.Told{m.tell(3, res, node, m.has[res][node])}
	}
	if len(m.row[res]) == 0 || m.row[res][0] != node {
		m.row[res] = append(slices.DeleteFunc(m.row[res], func(other int) bool { return other == node }), node)
	}
	m.wish[res][node] = mode
	return m.serve(res)
}

// hear is what a table hears, and tells.
func (m *tableModel) hear(node int, n api.Note) []api.Told {
	if node < 0 || node > 7 || !right(n, m.epoch, m.res) || n.Kind > 2 || n.Kind == 1 && n.Mode == 0 {
		return nil
	}
	res, last := n.Res, m.last[n.Res][node]
	if n.Seq <= last {
		if n.Seq == last && n.Kind == 1 && m.has[res][node] >= n.Mode {
			return []api.Told{m.tell(3, res, node, m.has[res][node])}
		}
		return nil
	}
	m.last[res][node] = n.Seq
	var l []api.Told
	switch {
	case n.Kind == 2:
		m.has[res][node] = min(m.has[res][node], n.Mode)
		l = m.serve(res)
	case m.wish[res][node] != n.Mode:
		l = m.want(res, node, n.Mode)
	}
	return append(l, m.calls(res)...)
}

// nudge is what Nudge tells.
func (m *tableModel) nudge() []api.Told {
	var l []api.Told
	for res := range m.res {
		l = append(l, m.calls(res)...)
	}
	return l
}

// queue is a resource's.
func (m *tableModel) queue(res int) api.Queue {
	var q api.Queue
	for node, has := range m.has[res] {
		if has > 0 {
			q.Has = append(q.Has, api.Claim{Node: node, Mode: has})
		}
	}
	for _, node := range m.row[res] {
		q.Waits = append(q.Waits, api.Claim{Node: node, Mode: m.wish[res][node]})
	}
	return q
}

// from is a note of a node.
type from struct {
	node int
	note api.Note
}

// asTableModel fails the test, if a table hears a note and tells anything else than its model, or is another one then.
func asTableModel(t *testing.T, table *master.Table, m *tableModel, f from) []api.Told {
	t.Helper()
	want := m.hear(f.node, f.note)
	got := table.Hear(f.node, f.note)
	if !slices.Equal(got, want) {
		t.Fatalf("%d:%s tells %q, not %q", f.node, noteText(f.note), toldText(got), toldText(want))
	}
	for res := range m.res {
		if got, want := table.Queue(res), m.queue(res); !slices.Equal(got.Has, want.Has) || !slices.Equal(got.Waits, want.Waits) {
			t.Fatalf("%d:%s leaves %s of %d, not %s", f.node, noteText(f.note), queueText(got), res, queueText(want))
		}
	}
	if got, want := table.Nudge(), m.nudge(); !slices.Equal(got, want) {
		t.Fatalf("behind %d:%s, Nudge tells %q, not %q", f.node, noteText(f.note), toldText(got), toldText(want))
	}
	return got
}

// rows hands all rows of so many out of all to see.
func rows[T any](all []T, long int, see func(row []T)) {
	places := make([]int, long)
	for done := false; !done; {
		row := make([]T, long)
		for i, place := range places {
			row[i] = all[place]
		}
		see(row)
		done = true
		for i := 0; i < long && done; i++ {
			places[i] = (places[i] + 1) % len(all)
			done = places[i] == 0
		}
	}
}

// P10.2, P10.3: all rows of four notes of three nodes, each with a Seq one above the node's last, or that last.
func TestAllTable(t *testing.T) {
	var all []from
	for _, node := range []int{0, 3, 7} {
		for _, s := range []string{"Ws1", "Wa1", "Dn1", "Ds1", "Ws0"} {
			all = append(all, from{node, noteOf(s)})
		}
	}
	rows(all, 4, func(row []from) {
		table, m := master.New(here, 1), &tableModel{epoch: here, res: 1}
		for _, f := range row {
			f.note.Seq += m.last[0][f.node]
			asTableModel(t, table, m, f)
		}
	})
}

// drawnNote is a note of a node with that last; few of them are wrong.
func drawnNote(d *draws, res, last int) api.Note {
	kind := []int{api.NoteWant, api.NoteWant, api.NoteDrop}[d.below(3)]
	n := api.Note{Kind: kind, Epoch: here, Res: d.below(res), Mode: d.below(3), Seq: last + 1 + d.below(3)}
	switch d.below(30) {
	case 0, 1, 2, 3, 4:
		n.Seq = last
	case 5, 6, 7:
		n.Seq = max(last-1-d.below(2), 0)
	case 8:
		n.Kind = d.below(7)
	case 9:
		n.Epoch = d.below(6)
	case 10:
		n.Res = slices.Concat(farRes, []int{res})[d.below(len(farRes)+1)]
	case 11:
		n.Mode = noModes[d.below(len(noModes))]
	case 12:
		n.Seq = []int{-1, api.MaxEpoch + 1, api.MaxEpoch << 3}[d.below(3)]
	}
	return n
}

// tableScripts plays drawn notes at tables, and hands what each one tells to see.
func tableScripts(t *testing.T, seed draws, see func(table *master.Table, f from, told []api.Told)) {
	t.Helper()
	d := seed
	for script := range 300 {
		res := 1 + script%3
		table, m := master.New(here, res), &tableModel{epoch: here, res: res}
		for range 150 {
			f := from{node: d.below(2 + script%7)}
			f.note = drawnNote(&d, res, 0)
			if r := f.note.Res; r >= 0 && r < res {
				f.note = drawnNote(&d, res, m.last[r][f.node])
			}
			if d.below(40) == 0 {
				f.node = farNodes[d.below(len(farNodes))]
			}
			see(table, f, asTableModel(t, table, m, f))
		}
	}
}

// P10.2, P10.3: drawn notes from nothing on, as the model tells them.
func TestDrawnTable(t *testing.T) {
	grants, calls, long := 0, 0, 0
	tableScripts(t, 102, func(_ *master.Table, _ from, told []api.Told) {
		for _, n := range told {
			if n.Note.Kind == api.NoteGrant {
				grants++
			} else {
				calls++
			}
		}
		if len(told) > 3 {
			long++
		}
	})
	if grants < 3000 || calls < 3000 || long < 300 {
		t.Errorf("%d Grants, %d Calls, %d times more than three: too few to tell much", grants, calls, long)
	}
}

// holderModel is a holder as the chapter words it, kept in another way: by resource what it has and wants, how many notes are sent, and all modes weaker than that to which it was called since it last got or dropped one.
type holderModel struct {
	epoch, res      int
	has, wish, sent [16]int
	called          [16][]int
}

// there tells whether there is such a resource.
func (m *holderModel) there(res int) bool { return res >= 0 && res < m.res }

// send is the next note of a resource.
func (m *holderModel) send(kind, res, mode int) api.Note {
	m.sent[res]++
	return api.Note{Kind: kind, Epoch: m.epoch, Res: res, Mode: mode, Seq: m.sent[res]}
}

// want is what Want tells; nothing, if that is false.
func (m *holderModel) want(res, mode int) []api.Note {
	if !m.there(res) || mode != 1 && mode != 2 || m.has[res] >= mode {
		return nil
	}
	if m.wish[res] == mode {
		m.sent[res]--
	}
	m.wish[res] = mode
	return []api.Note{m.send(1, res, mode)}
}

// drop is what Drop tells; nothing, if that is false.
func (m *holderModel) drop(res, mode int) []api.Note {
	if !m.there(res) || mode < 0 || mode >= m.has[res] {
		return nil
	}
	m.has[res], m.wish[res], m.called[res] = mode, 0, nil
	return []api.Note{m.send(2, res, mode)}
}

// hear is what Hear tells.
func (m *holderModel) hear(n api.Note) []api.Note {
	if !right(n, m.epoch, m.res) {
		return nil
	}
	res := n.Res
	switch {
	case n.Kind == 3 && m.wish[res] > 0 && n.Seq == m.sent[res] && n.Mode >= m.wish[res]:
		m.has[res], m.wish[res], m.called[res] = n.Mode, 0, nil
	case n.Kind == 4 && n.Mode < m.has[res]:
		m.called[res] = append(m.called[res], n.Mode)
	case n.Kind == 4:
		l := []api.Note{m.send(2, res, m.has[res])}
		if m.wish[res] > 0 {
			l = append(l, m.send(1, res, m.wish[res]))
		}
		return l
	}
	return nil
}

// state is as state is of a holder.
func (m *holderModel) state(res int) string {
	if !m.there(res) {
		return "n n -"
	}
	s := letter(modes, m.has[res]) + " " + letter(modes, m.wish[res]) + " "
	if len(m.called[res]) == 0 {
		return s + "-"
	}
	return s + letter(modes, slices.Min(m.called[res]))
}

// again is what Again tells.
func (m *holderModel) again() []api.Note {
	var l []api.Note
	for res := range m.res {
		if m.wish[res] > 0 {
			l = append(l, api.Note{Kind: 1, Epoch: m.epoch, Res: res, Mode: m.wish[res], Seq: m.sent[res]})
		}
	}
	return l
}

// act is what is done to a holder: hears a note of a kind from 3 on; or wants, or drops, as the Kind says.
type act api.Note

// do has a holder do it.
func (a act) do(h *master.Holder) []api.Note {
	var n api.Note
	var ok bool
	switch a.Kind {
	case api.NoteWant:
		n, ok = h.Want(a.Res, a.Mode)
	case api.NoteDrop:
		n, ok = h.Drop(a.Res, a.Mode)
	default:
		return h.Hear(api.Note(a))
	}
	if !ok && n == (api.Note{}) {
		return nil
	}
	return []api.Note{n}
}

// by has a model do it.
func (a act) by(m *holderModel) []api.Note {
	switch a.Kind {
	case api.NoteWant:
		return m.want(a.Res, a.Mode)
	case api.NoteDrop:
		return m.drop(a.Res, a.Mode)
	}
	return m.hear(api.Note(a))
}

// asHolderModel fails the test, if a holder tells anything else than its model, or is another one then.
func asHolderModel(t *testing.T, h *master.Holder, m *holderModel, a act) []api.Note {
	t.Helper()
	want := a.by(m)
	got := a.do(h)
	if !slices.Equal(got, want) {
		t.Fatalf("%s tells %q, not %q", noteText(api.Note(a)), notesText(got), notesText(want))
	}
	for res := range m.res {
		if got, want := state(h, res), m.state(res); got != want {
			t.Fatalf("%s leaves %s of %d, not %s", noteText(api.Note(a)), got, res, want)
		}
	}
	if got, want := h.Again(), m.again(); !slices.Equal(got, want) {
		t.Fatalf("behind %s, Again tells %q, not %q", noteText(api.Note(a)), notesText(got), notesText(want))
	}
	return got
}

// P10.4, P10.5: all rows of five wishes, Drops, Grants (for the last note, or the one ahead of it) and Calls.
func TestAllHolder(t *testing.T) {
	var all []act
	for _, s := range []string{"Ws0", "Wa0", "Dn0", "Ds0", "Gs0", "Ga0", "Ga1", "Gn0", "Cn0", "Cs0", "Ca0"} {
		all = append(all, act(noteOf(s)))
	}
	rows(all, 5, func(row []act) {
		h, m := master.Hold(here, 1), &holderModel{epoch: here, res: 1}
		for _, a := range row {
			a.Seq = max(m.sent[0]-a.Seq, 0)
			asHolderModel(t, h, m, a)
		}
	})
}

// holderScripts plays drawn acts at holders, and hands what each one tells to see.
func holderScripts(t *testing.T, seed draws, see func(h *master.Holder, a act, told []api.Note)) {
	t.Helper()
	d := seed
	for script := range 300 {
		res := 1 + script%3
		h, m := master.Hold(here, res), &holderModel{epoch: here, res: res}
		for range 200 {
			a := act(drawnNote(&d, res, 0))
			if r := a.Res; r >= 0 && r < res {
				a = act(drawnNote(&d, res, m.sent[r]-d.below(2)))
			}
			if d.below(2) == 0 {
				a.Kind += 2
				a.Seq = max(a.Seq-1, 0)
			}
			see(h, a, asHolderModel(t, h, m, a))
		}
	}
}

// P10.4, P10.5: drawn acts from nothing on, as the model tells them.
func TestDrawnHolder(t *testing.T) {
	had, called, sent := 0, 0, 0
	holderScripts(t, 104, func(h *master.Holder, _ act, told []api.Note) {
		had += h.Mode(0)
		if _, ok := h.Called(0); ok {
			called++
		}
		sent += len(told)
	})
	if had < 5000 || called < 1000 || sent < 5000 {
		t.Errorf("%d had, %d called, %d sent: too few to tell much", had, called, sent)
	}
}
