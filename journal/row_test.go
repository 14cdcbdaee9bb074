package journal_test

import (
	"math"
	"slices"
	"testing"

	"lockgate/api"
	"lockgate/journal"
)

// P11.2: how many changes there is room for.
func TestRoom(t *testing.T) {
	for _, l := range [][2]int{
		{0, 0}, {1, 0}, {2, 0}, {3, 0}, {4, 1}, {5, 2}, {39, 36}, {40, 37}, {62, 59}, {63, 60}, {64, 60}, {65, 60}, {1000, 60}, {math.MaxInt, 60},
		{-1, 0}, {-3, 0}, {-64, 0}, {math.MinInt, 0}, {math.MinInt + 1, 0}, {math.MinInt + 2, 0}, {math.MinInt + 3, 0},
	} {
		if got := journal.Room(l[0]); got != l[1] {
			t.Errorf("Room(%d): %d, not %d", l[0], got, l[1])
		}
	}
	for size := -200; size <= 200; size++ {
		want := size - 3
		if want < 0 {
			want = 0
		} else if want > 60 {
			want = 60
		}
		if got := journal.Room(size); got != want {
			t.Errorf("Room(%d): %d, not %d", size, got, want)
		}
	}
}

// putInto is Put by the chapter's words: the change of the sector, looked for ahead of all else, or the place for it.
func putInto(l []api.Change, c api.Change) []api.Change {
	l = slices.Clone(l)
	if i := slices.IndexFunc(l, func(o api.Change) bool { return o.Sector == c.Sector }); i >= 0 {
		l[i] = c
		return l
	}
	if i := slices.IndexFunc(l, func(o api.Change) bool { return o.Sector > c.Sector }); i >= 0 {
		return slices.Insert(l, i, c)
	}
	return append(l, c)
}

// put fails the test, if Put tells anything else than is wanted.
func put(t *testing.T, l []api.Change, c api.Change, want []api.Change) {
	t.Helper()
	if got := journal.Put(l, c); !slices.Equal(got, want) {
		t.Fatalf("Put of %s into %s: %s, not %s", short([]api.Change{c}), short(l), short(got), short(want))
	}
}

// P11.2: into rows: ahead of all, between, in place of one, behind all, and into none.
func TestPut(t *testing.T) {
	a, b, c := api.Change{Sector: 3, S: "a"}, api.Change{Sector: 5, S: "b"}, api.Change{Sector: 9, S: "c"}
	l := []api.Change{a, b, c}
	for sector, want := range map[int]func(x api.Change) []api.Change{
		0:  func(x api.Change) []api.Change { return []api.Change{x, a, b, c} },
		2:  func(x api.Change) []api.Change { return []api.Change{x, a, b, c} },
		3:  func(x api.Change) []api.Change { return []api.Change{x, b, c} },
		4:  func(x api.Change) []api.Change { return []api.Change{a, x, b, c} },
		5:  func(x api.Change) []api.Change { return []api.Change{a, x, c} },
		7:  func(x api.Change) []api.Change { return []api.Change{a, b, x, c} },
		9:  func(x api.Change) []api.Change { return []api.Change{a, b, x} },
		10: func(x api.Change) []api.Change { return []api.Change{a, b, c, x} },
	} {
		x := api.Change{Sector: sector, S: "x"}
		put(t, l, x, want(x))
	}
	x := api.Change{Sector: 5, S: "x"}
	put(t, nil, x, []api.Change{x})
	put(t, []api.Change{}, x, []api.Change{x})
	put(t, []api.Change{b}, x, []api.Change{x})
	put(t, []api.Change{x}, x, []api.Change{x})
}

// lists are all of up to so many changes with sectors below another number, in any order; each change has bytes of its own.
func lists(many, sectors int) [][]api.Change {
	all := [][]api.Change{nil}
	for from := 0; many > 0; many-- {
		to := len(all)
		for _, l := range all[from:to] {
			for sector := range sectors {
				all = append(all, append(slices.Clone(l), api.Change{Sector: sector, S: string(rune('a' + len(l)))}))
			}
		}
		from = to
	}
	return all
}

// P11.2: into all small lists, rows or not: several changes of one sector, none in order.
func TestPutIntoAnyList(t *testing.T) {
	for _, l := range lists(5, 5) {
		for sector := -1; sector <= 5; sector++ {
			c := api.Change{Sector: sector, S: "z"}
			put(t, l, c, putInto(l, c))
		}
	}
	x := func(sector int) api.Change { return api.Change{Sector: sector, S: "x"} }
	put(t, rowOf(7, 3, 7, 3), x(3), append(append(rowOf(7), x(3)), rowOf(7, 3, 7, 3)[2:]...))
	put(t, rowOf(9, 2, 8), x(8), append(rowOf(9, 2), x(8)))
	put(t, rowOf(1, 9, 2, 8), x(4), append(append(rowOf(1), x(4)), rowOf(1, 9, 2, 8)[1:]...))
}

// P11.2, P1: changes that may not be are put like others.
func TestPutOfAnyChange(t *testing.T) {
	l := rowOf(math.MinInt, -5, 0, 65535, 65536, math.MaxInt)
	for _, sector := range []int{math.MinInt, math.MinInt + 1, -6, -5, -1, 0, 1, 65534, 65535, 65536, 65537, math.MaxInt - 1, math.MaxInt} {
		for _, s := range []string{"", "x", string(make([]byte, 512)), string(make([]byte, 513))} {
			c := api.Change{Sector: sector, S: s}
			put(t, l, c, putInto(l, c))
			put(t, l[:0], c, []api.Change{c})
		}
	}
}

// P11.2: what is put in any order becomes a row, with what was put last for each sector.
func TestPutMany(t *testing.T) {
	d := draws(2)
	for range 200 {
		last := map[int]string{}
		var l []api.Change
		for range 60 {
			c := api.Change{Sector: d.below(80), S: d.sector()}
			last[c.Sector] = c.S
			l = journal.Put(l, c)
		}
		if !isRow(l) || len(l) != len(last) {
			t.Fatalf("%s is no row of %d changes", short(l), len(last))
		}
		for _, c := range l {
			if last[c.Sector] != c.S {
				t.Fatalf("of sector %d there is an elder change", c.Sector)
			}
		}
	}
}

// ink is what lists are written over with.
var ink = api.Change{Sector: -77, S: "ink"}

// blot writes over a list, and over what there is room for behind it.
func blot(l []api.Change) {
	l = l[:cap(l)]
	for i := range l {
		l[i] = ink
	}
}

// R3: what is handed to Put stays as it was, also what lies behind it, and has nothing to do with what is told.
func TestPutLeavesLists(t *testing.T) {
	for _, l := range lists(4, 4) {
		for sector := -1; sector <= 4; sector++ {
			c := api.Change{Sector: sector, S: "z"}
			whole := slices.Concat(l, rowOf(1, 2, 3))
			was, want := slices.Clone(whole), putInto(l, c)
			got := journal.Put(whole[:len(l)], c)
			if !slices.Equal(whole, was) {
				t.Fatalf("Put of %d has made %s of %s", sector, short(whole), short(was))
			}
			blot(whole)
			if !slices.Equal(got, want) {
				t.Fatalf("what Put of %d into %s told has become %s", sector, short(l), short(got))
			}
			whole = slices.Clone(was)
			blot(journal.Put(whole[:len(l)], c))
			if !slices.Equal(whole, was) {
				t.Fatalf("what Put of %d into %s told lies in that", sector, short(l))
			}
		}
	}
}

// R3: two changes that are put into one list have nothing to do with each other.
func TestPutsBesideEachOther(t *testing.T) {
	base := journal.Put(journal.Put(journal.Put(nil, api.Change{Sector: 2}), api.Change{Sector: 4}), api.Change{Sector: 6})
	was := slices.Clone(base)
	var all [][]api.Change
	for sector := range 9 {
		all = append(all, journal.Put(base, api.Change{Sector: sector, S: "z"}))
	}
	for sector, l := range all {
		if !slices.Equal(l, putInto(was, api.Change{Sector: sector, S: "z"})) {
			t.Errorf("Put of %d has become %s", sector, short(l))
		}
	}
	if !slices.Equal(base, was) {
		t.Errorf("%s has become %s", short(was), short(base))
	}
}
