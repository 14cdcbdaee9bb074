package master_test

import (
	"math"
	"slices"
	"strings"
	"testing"

	"lockgate/api"
	"lockgate/master"
)

// P10.4: a new one has nothing, wants nothing, isn't called.
func TestHold(t *testing.T) {
	atHolder(t, script{{"is 0", "n n -"}, {"is 1", "n n -"}, {"is 2", "n n -"}, {"is 3", "n n -"}, {"again", ""}})
}

// P10.4: a Want of what it hasn't, of the same once more, of something else, of what it has; each of these that is new has a Seq one more.
func TestHolderWants(t *testing.T) {
	atHolder(t,
		script{{"want s", "Ws1"}, {"is", "n s -"}, {"want s", "Ws1"}, {"want s", "Ws1"}, {"want a", "Wa2"}, {"is", "n a -"}, {"want a", "Wa2"}, {"want s", "Ws3"}, {"is", "n s -"}, {"again", "Ws3"}},
		script{{"want a", "Wa1"}, {"Ga1", ""}, {"is", "a n -"}, {"want a", "no"}, {"want s", "no"}, {"is", "a n -"}, {"again", ""}, {"drop n", "Dn2"}, {"want a", "Wa3"}},
		script{{"want s", "Ws1"}, {"Gs1", ""}, {"want s", "no"}, {"is", "s n -"}, {"want a", "Wa2"}, {"is", "s a -"}, {"want s", "no"}, {"is", "s a -"}, {"want a", "Wa2"}, {"Ga2", ""}, {"is", "a n -"}},
		script{{"want n", "no"}, {"is", "n n -"}, {"want s", "Ws1"}, {"want n", "no"}, {"is", "n s -"}},
	)
}

// P10.4: numbers that are no modes, and resources that there aren't, are neither wanted nor dropped, and nothing is so of them.
func TestHolderWrong(t *testing.T) {
	h := master.Hold(here, 3)
	for _, do := range []string{"want a", "Ga1", "Cs1", "want s 1", "Gs1@1", "want a 1"} {
		holderSays(h, do)
	}
	was := []string{"a n s", "s a -", "n n -"}
	for _, m := range noModes {
		for res := range 3 {
			if got := said(h.Want(res, m)) + said(h.Drop(res, m)); got != "nono" {
				t.Errorf("of mode %d, %s is told", m, got)
			}
		}
	}
	for _, res := range append([]int{3, 4, 15}, farRes...) {
		for _, m := range append([]int{0, 1, 2}, noModes...) {
			if got := said(h.Want(res, m)) + said(h.Drop(res, m)) + state(h, res); got != "nonon n -" {
				t.Errorf("of resource %d and mode %d, %s is told", res, m, got)
			}
		}
	}
	for res, want := range was {
		if got := state(h, res); got != want {
			t.Errorf("of resource %d, there is %s, not %s", res, got, want)
		}
	}
	plays(t, func(do string) string { return holderSays(h, do) }, script{{"drop n", "Dn2"}, {"want s", "Ws3"}, {"again", "Ws3 Wa2@1"}, {"want s 2", "Ws1@2"}})
}

// P10.4: a Drop to a weaker mode than it has; to no weaker one, nothing happens.
func TestHolderDrops(t *testing.T) {
	atHolder(t,
		script{{"drop n", "no"}, {"drop s", "no"}, {"drop a", "no"}, {"want s", "Ws1"}, {"drop n", "no"}, {"is", "n s -"}, {"Gs1", ""}, {"drop s", "no"}, {"drop a", "no"}, {"is", "s n -"}, {"drop n", "Dn2"}, {"is", "n n -"}, {"drop n", "no"}, {"Gs2", ""}, {"is", "n n -"}},
		script{{"want a", "Wa1"}, {"Ga1", ""}, {"drop a", "no"}, {"drop s", "Ds2"}, {"is", "s n -"}, {"drop s", "no"}, {"drop n", "Dn3"}, {"is", "n n -"}},
		script{{"want a", "Wa1"}, {"Ga1", ""}, {"drop n", "Dn2"}, {"is", "n n -"}, {"want s", "Ws3"}},
		script{{"want s", "Ws1"}, {"Gs1", ""}, {"want a", "Wa2"}, {"drop n", "Dn3"}, {"is", "n n -"}, {"again", ""}, {"Ga2", ""}, {"Ga3", ""}, {"is", "n n -"}, {"want a", "Wa4"}},
		script{{"want a", "Wa1"}, {"Ga1", ""}, {"Cn1", ""}, {"is", "a n n"}, {"drop a", "no"}, {"is", "a n n"}, {"drop s", "Ds2"}, {"is", "s n -"}},
	)
}

// P10.4: resources have nothing to do with each other, nor their counts.
func TestHolderResourcesApart(t *testing.T) {
	atHolder(t,
		script{
			{"want a", "Wa1"}, {"want s", "Ws2"}, {"want s 2", "Ws1@2"}, {"is 1", "n n -"}, {"Gs2@2", ""}, {"is 2", "n s -"}, {"Gs1", ""}, {"is 0", "n s -"},
			{"Gs1@2", ""}, {"is 2", "s n -"}, {"is 0", "n s -"}, {"Cn1@2", ""}, {"is 2", "s n n"}, {"is 0", "n s -"}, {"Cn1@1", "Dn1@1"}, {"again", "Ws2"}, {"drop n 2", "Dn2@2"}, {"want a 1", "Wa2@1"}, {"again", "Ws2 Wa2@1"},
		},
	)
}

// P10.5: a Grant is taken, if it wants something, its count is the Seq, and the mode covers that.
func TestGrants(t *testing.T) {
	atHolder(t,
		script{{"Ga0", ""}, {"Gs0", ""}, {"Gn0", ""}, {"is", "n n -"}, {"Ga1", ""}, {"is", "n n -"}},
		script{{"want s", "Ws1"}, {"Gs0", ""}, {"Gs2", ""}, {"Ga0", ""}, {"Gn1", ""}, {"is", "n s -"}, {"Gs1", ""}, {"is", "s n -"}, {"Ga1", ""}, {"is", "s n -"}},
		script{{"want s", "Ws1"}, {"Ga1", ""}, {"is", "a n -"}, {"Gs1", ""}, {"is", "a n -"}},
		script{{"want a", "Wa1"}, {"Gs1", ""}, {"Gn1", ""}, {"is", "n a -"}, {"Ga1", ""}, {"is", "a n -"}},
		script{{"want s", "Ws1"}, {"want a", "Wa2"}, {"Gs1", ""}, {"Ga1", ""}, {"Gs2", ""}, {"is", "n a -"}, {"Ga2", ""}, {"is", "a n -"}},
		script{{"want s", "Ws1"}, {"Gs1", ""}, {"want a", "Wa2"}, {"Gs2", ""}, {"Gs1", ""}, {"Ga1", ""}, {"Ga3", ""}, {"is", "s a -"}, {"Ga2", ""}, {"is", "a n -"}},
		script{{"want a", "Wa1"}, {"Ga1", ""}, {"drop n", "Dn2"}, {"Ga1", ""}, {"Ga2", ""}, {"is", "n n -"}, {"want a", "Wa3"}, {"Ga1", ""}, {"Ga2", ""}, {"is", "n a -"}},
	)
}

// P10.5: a Call to a weaker mode than it has is kept in mind, the weakest one, till it gets or drops something; its Seq is of no account.
func TestCalls(t *testing.T) {
	alone, share := script{{"want a", "Wa1"}, {"Ga1", ""}, {"is", "a n -"}}, script{{"want s", "Ws1"}, {"Gs1", ""}}
	for _, s := range []script{
		{{"Cs1", ""}, {"is", "a n s"}, {"Cs1", ""}, {"is", "a n s"}, {"Cn1", ""}, {"is", "a n n"}, {"Cs1", ""}, {"is", "a n n"}, {"again", ""}, {"drop s", "Ds2"}, {"is", "s n -"}, {"Cn1", ""}, {"is", "s n n"}, {"drop n", "Dn3"}, {"is", "n n -"}},
		{{"Cn1", ""}, {"is", "a n n"}, {"Cs1", ""}, {"is", "a n n"}, {"drop n", "Dn2"}, {"is", "n n -"}, {"want a", "Wa3"}, {"Ga3", ""}, {"is", "a n -"}, {"Cs3", ""}, {"is", "a n s"}},
		{{"Cs0", ""}, {"is", "a n s"}, {"Cn77", ""}, {"is", "a n n"}},
		{{"Cs1", ""}, {"want a", "no"}, {"want s", "no"}, {"is", "a n s"}, {"drop a", "no"}, {"Ga1", ""}, {"is", "a n s"}, {"Ca1", "Da2"}, {"is", "a n s"}, {"drop s", "Ds3"}, {"is", "s n -"}},
	} {
		atHolder(t, slices.Concat(alone, s))
	}
	for _, s := range []script{
		{{"Cn1", ""}, {"is", "s n n"}, {"want a", "Wa2"}, {"is", "s a n"}, {"want a", "Wa2"}, {"is", "s a n"}, {"Ga2", ""}, {"is", "a n -"}, {"Cs2", ""}, {"is", "a n s"}},
		{{"want a", "Wa2"}, {"Cn2", ""}, {"is", "s a n"}, {"again", "Wa2"}, {"Gs2", ""}, {"is", "s a n"}, {"drop n", "Dn3"}, {"is", "n n -"}, {"want s", "Ws4"}},
		{{"Cn1", ""}, {"Cs1", "Ds2"}, {"is", "s n n"}, {"Cn2", ""}, {"is", "s n n"}},
	} {
		atHolder(t, slices.Concat(share, s))
	}
}

// P10.5: a Call to what it has, or to more, is answered by a Drop of what it has, and a Want of what it wants, each with a new Seq.
func TestCallsOfWhatItHasnt(t *testing.T) {
	atHolder(t,
		script{{"Cn0", "Dn1"}, {"is", "n n -"}, {"Cn0", "Dn2"}, {"Cs0", "Dn3"}, {"Ca0", "Dn4"}, {"is", "n n -"}, {"again", ""}, {"want s", "Ws5"}},
		script{{"want s", "Ws1"}, {"Cn1", "Dn2 Ws3"}, {"is", "n s -"}, {"Gs1", ""}, {"Gs2", ""}, {"is", "n s -"}, {"again", "Ws3"}, {"want s", "Ws3"}, {"Gs3", ""}, {"is", "s n -"}},
		script{{"want a", "Wa1"}, {"Cs1", "Dn2 Wa3"}, {"Cn1", "Dn4 Wa5"}, {"Ca9", "Dn6 Wa7"}, {"is", "n a -"}, {"want s", "Ws8"}, {"again", "Ws8"}},
		script{{"want s", "Ws1"}, {"Gs1", ""}, {"Cs1", "Ds2"}, {"is", "s n -"}, {"Ca1", "Ds3"}, {"want a", "Wa4"}, {"Cs1", "Ds5 Wa6"}, {"is", "s a -"}, {"Ga4", ""}, {"Ga5", ""}, {"is", "s a -"}, {"Ga6", ""}, {"is", "a n -"}, {"Ca6", "Da7"}, {"is", "a n -"}},
		script{{"want a", "Wa1"}, {"Ga1", ""}, {"drop n", "Dn2"}, {"Cs1", "Dn3"}, {"is", "n n -"}},
		script{{"want a 2", "Wa1@2"}, {"Cn5@2", "Dn2@2 Wa3@2"}, {"is 2", "n a -"}, {"is 0", "n n -"}, {"want s", "Ws1"}},
	)
}

// P10.5: Again tells all that is wanted, by rising resources, as it was told last, as often as it is asked.
func TestAgain(t *testing.T) {
	atHolder(t,
		script{
			{"want a 2", "Wa1@2"}, {"want s 0", "Ws1"}, {"again", "Ws1 Wa1@2"}, {"again", "Ws1 Wa1@2"}, {"want s 1", "Ws1@1"}, {"want a 1", "Wa2@1"}, {"again", "Ws1 Wa2@1 Wa1@2"},
			{"Gs1", ""}, {"again", "Wa2@1 Wa1@2"}, {"want a 0", "Wa2"}, {"Cn0@2", "Dn2@2 Wa3@2"}, {"again", "Wa2 Wa2@1 Wa3@2"}, {"drop n 0", "Dn3"}, {"again", "Wa2@1 Wa3@2"}, {"Ga2@1", ""}, {"Ga3@2", ""}, {"again", ""},
		},
	)
	h := master.Hold(here, 16)
	var want []string
	for res := range api.MaxRes {
		h.Want(15-res, api.Share)
		want = append(want, noteText(api.Note{Kind: api.NoteWant, Epoch: here, Res: res, Mode: api.Share, Seq: 1}))
	}
	if got := notesText(h.Again()); got != strings.Join(want, " ") {
		t.Errorf("of sixteen resources, %s is told", got)
	}
}

// holding is a holder of three resources, one of which it has, one of which it wants more, one of which it just wants.
func holding() *master.Holder {
	h := master.Hold(here, 3)
	for _, do := range []string{"want a", "Ga1", "want s 1", "Gs1@1", "Cn1@1", "want a 1", "want s 2"} {
		holderSays(h, do)
	}
	return h
}

// holdingText is what is to be seen of such a holder: all that is asked, and, by Calls of what it hasn't, its counts.
func holdingText(h *master.Holder) string {
	s := notesText(h.Again())
	for res := range api.MaxRes {
		s += ", " + state(h, res)
	}
	for _, do := range []string{"Ca1", "Ca1@1", "Ca1@2"} {
		s += ", " + holderSays(h, do)
	}
	return s
}

// deafHolder fails the test, if a holder tells or does anything, once it hears a note.
func deafHolder(t *testing.T, n api.Note) {
	t.Helper()
	h := holding()
	if got := h.Hear(n); len(got) > 0 {
		t.Errorf("%v: %s", n, notesText(got))
	}
	if got, want := holdingText(h), holdingText(holding()); got != want {
		t.Errorf("%v leaves %s, not %s", n, got, want)
	}
}

// P10.5: what a holder hears that isn't for it is nothing: other kinds, epochs and resources, notes that may not be.
func TestHolderIsDeaf(t *testing.T) {
	if got := holdingText(holding()); got != "Wa2@1 Ws1@2, a n -, s a n, n s -"+strings.Repeat(", n n -", 13)+", Da2, Ds3@1 Wa4@1, Dn2@2 Ws3@2" {
		t.Fatalf("there is %s", got)
	}
	for _, n := range []api.Note{noteOf("Cn1"), noteOf("Cs1"), noteOf("Ga2@1"), noteOf("Cn2@2"), noteOf("Gs1@2"), noteOf("Ca1@2")} {
		if h := holding(); notesText(h.Hear(n)) == "" && holdingText(h) == holdingText(holding()) {
			t.Errorf("%v is heard, and does nothing", n)
		}
		for _, kind := range []int{math.MinInt, -1, 0, api.NoteWant, api.NoteDrop, api.NoteBeat, 6, 1<<32 + 3, math.MaxInt} {
			other := n
			other.Kind = kind
			deafHolder(t, other)
		}
		for _, epoch := range []int{math.MinInt, -here, -1, 0, here - 1, here + 1, api.MaxEpoch, 1<<32 + here, math.MaxInt} {
			other := n
			other.Epoch = epoch
			deafHolder(t, other)
		}
		for _, res := range append([]int{3, 4, 15}, farRes...) {
			other := n
			other.Res = res
			deafHolder(t, other)
		}
		for _, m := range noModes {
			other := n
			other.Mode = m
			deafHolder(t, other)
		}
		for _, seq := range []int{math.MinInt, -1, api.MaxEpoch + 1, 1 << 48, math.MaxInt} {
			other := n
			other.Seq = seq
			deafHolder(t, other)
		}
	}
}

// P10.4, P10.5: a holder has as many resources as were asked for, from 1 to 16.
func TestHolderSizes(t *testing.T) {
	for _, size := range sizes {
		h := master.Hold(here, size[0])
		for res := range api.MaxRes {
			there := res < size[1]
			n, ok := h.Want(res, api.Share)
			if want := (api.Note{Kind: api.NoteWant, Epoch: here, Res: res, Mode: api.Share, Seq: 1}); ok != there || there && n != want || !there && n != (api.Note{}) {
				t.Errorf("Want of %d of %d tells %v, %t", res, size[0], n, ok)
			}
			if l := h.Hear(api.Note{Kind: api.NoteCall, Epoch: here, Res: res}); (len(l) == 2) != there {
				t.Errorf("a Call of %d of %d has %s told", res, size[0], notesText(l))
			}
		}
		for _, res := range farRes {
			if got := said(h.Want(res, api.Share)); got != "no" {
				t.Errorf("Want of %d of %d tells %s", res, size[0], got)
			}
		}
		if l := h.Again(); len(l) != size[1] {
			t.Errorf("of %d, Again tells %s", size[0], notesText(l))
		}
	}
}

// P10.4, P10.5: a holder's epoch is that of all that it hears and tells; with one that no note may have, it hears nothing.
func TestHolderEpochs(t *testing.T) {
	for _, epoch := range []int{0, 1, here, api.MaxEpoch, -1, api.MaxEpoch + 1, math.MinInt, math.MaxInt} {
		for _, other := range []int{0, 1, 2, here, api.MaxEpoch, -1, api.MaxEpoch + 1, math.MinInt, math.MaxInt} {
			h := master.Hold(epoch, 2)
			if n, ok := h.Want(1, api.Share); n != (api.Note{Kind: api.NoteWant, Epoch: epoch, Res: 1, Mode: api.Share, Seq: 1}) || !ok {
				t.Errorf("in epoch %d, Want tells %v, %t", epoch, n, ok)
			}
			h.Hear(api.Note{Kind: api.NoteGrant, Epoch: other, Res: 1, Mode: api.Alone, Seq: 1})
			heard := other == epoch && epoch >= 0 && epoch <= api.MaxEpoch
			if got := h.Mode(1); heard && got != api.Alone || !heard && got != api.None {
				t.Errorf("one of epoch %d hears a Grant of %d, and has %d", epoch, other, got)
			}
			n, ok := h.Drop(1, api.None)
			if ok != heard || heard && n != (api.Note{Kind: api.NoteDrop, Epoch: epoch, Res: 1, Seq: 2}) {
				t.Errorf("in epoch %d, Drop tells %v, %t", epoch, n, ok)
			}
		}
	}
}

// P10.4, P10.5: a nil holder and a zero one tell nothing, false, None.
func TestNoHolder(t *testing.T) {
	for _, h := range []*master.Holder{nil, {}} {
		for _, res := range append([]int{0, 1, 15}, farRes...) {
			for _, m := range append([]int{0, 1, 2}, noModes...) {
				if got := said(h.Want(res, m)) + said(h.Drop(res, m)) + state(h, res); got != "nonon n -" {
					t.Errorf("of resource %d and mode %d, %s is told", res, m, got)
				}
				for kind := range 7 {
					for epoch := range 2 {
						if got := h.Hear(api.Note{Kind: kind, Epoch: epoch, Res: res, Mode: m, Seq: epoch}); len(got) > 0 {
							t.Errorf("Hear tells %s", notesText(got))
						}
					}
				}
			}
		}
		if got := h.Again(); len(got) > 0 {
			t.Errorf("Again tells %s", notesText(got))
		}
	}
}
