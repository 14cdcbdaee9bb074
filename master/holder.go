package master

import (
	"lockgate/api"
	"lockgate/mode"
)

// lock is what a node knows of a resource: what it has; the weakest mode that it was called to (what it has, if to none that is weaker); what it wants; and how many notes it has sent.
type lock struct{ has, keeps, wants, count int }

// Holder is what a node has, and wants.
type Holder struct {
	epoch, res int
	locks      [api.MaxRes]lock
}

// Hold is one in a view of so many resources, which has none of them.
func Hold(epoch, res int) *Holder { return &Holder{epoch: epoch, res: kept(res)} }

// lock is that of a resource; nil, if there is none.
func (h *Holder) lock(res int) *lock {
	if h == nil || !among(res, h.res) {
		return nil
	}
	return &h.locks[res]
}

// look is what is known of a resource; nothing, if there is none.
func (h *Holder) look(res int) lock {
	l := h.lock(res)
	if l == nil {
		return lock{}
	}
	return *l
}

// set has a node have m, want nothing, and not be called.
func (l *lock) set(m int) { l.has, l.keeps, l.wants = m, m, api.None }

// call has a node be called to m, if it isn't to a weaker mode.
func (l *lock) call(m int) {
	if stronger(l.keeps, m) {
		l.keeps = m
	}
}

// note is what is said of a resource, with the count as it is.
func (h *Holder) note(kind, res, m int) api.Note {
	return api.Note{Kind: kind, Epoch: h.epoch, Res: res, Mode: m, Seq: h.locks[res].count}
}

// next is what is said of a resource anew.
func (h *Holder) next(kind, res, m int) api.Note {
	h.locks[res].count++
	return h.note(kind, res, m)
}

// Want has the node want a mode that it hasn't.
func (h *Holder) Want(res, m int) (api.Note, bool) {
	l := h.lock(res)
	switch {
	case l == nil, !stronger(m, api.None), mode.Covers(l.has, m):
		return api.Note{}, false
	case l.wants == m:
		return h.note(api.NoteWant, res, m), true
	}
	l.wants = m
	return h.next(api.NoteWant, res, m), true
}

// Drop has the node have a weaker mode than it has.
func (h *Holder) Drop(res, m int) (api.Note, bool) {
	l := h.lock(res)
	if l == nil || !stronger(l.has, m) {
		return api.Note{}, false
	}
	l.set(m)
	return h.next(api.NoteDrop, res, m), true
}

// Hear takes a master's note, and tells what is to be said to that.
func (h *Holder) Hear(n api.Note) []api.Note {
	if h == nil || !meant(n, h.epoch, h.res) {
		return nil
	}
	var all []api.Note
	l := h.lock(n.Res)
kinds:
	switch n.Kind {
	case api.NoteGrant:
		if l.wants == api.None || l.count != n.Seq || !mode.Covers(n.Mode, l.wants) {
			break kinds // it is for what was wanted once
		}
		l.set(n.Mode)
	case api.NoteCall:
		if stronger(l.has, n.Mode) {
			l.call(n.Mode)
			break kinds
		}
		// The master believes that it has more: by the greater counts, no Grant that is still under way counts any more.
		all = append(all, h.next(api.NoteDrop, n.Res, l.has))
		if l.wants != api.None {
			all = append(all, h.next(api.NoteWant, n.Res, l.wants))
		}
	}
	return all
}

// Mode is what the node has.
func (h *Holder) Mode(res int) int { return h.look(res).has }

// Wants is what the node wants.
func (h *Holder) Wants(res int) int { return h.look(res).wants }

// Called is the mode that the node is to go down to, if it is called to one.
func (h *Holder) Called(res int) (int, bool) {
	l := h.look(res)
	if !stronger(l.has, l.keeps) {
		return api.None, false
	}
	return l.keeps, true
}

// Again are the notes of all that the node wants, as they were.
func (h *Holder) Again() []api.Note {
	if h == nil {
		return nil
	}
	var all []api.Note
	for res := range h.res {
		if m := h.locks[res].wants; m != api.None {
			all = append(all, h.note(api.NoteWant, res, m))
		}
	}
	return all
}
