package entry_test

import (
	"math"
	"slices"
	"strings"
	"testing"

	"lockgate/api"
	"lockgate/entry"
)

// foundIn is Find by the chapter's words: the list is gone over from behind, so that the first one is told last.
func foundIn(l []api.Entry, name string) (int, bool) {
	sector, ok := 0, false
	for i := len(l) - 1; i >= 0; i-- {
		if l[i].Name == name {
			sector, ok = l[i].Sector, true
		}
	}
	return sector, ok
}

// putInto is Put by the chapter's words.
func putInto(l []api.Entry, e api.Entry) []api.Entry {
	l = slices.Clone(l)
	if i := slices.IndexFunc(l, func(o api.Entry) bool { return o.Name == e.Name }); i >= 0 {
		l[i] = e
		return l
	}
	if i := slices.IndexFunc(l, func(o api.Entry) bool { return strings.Compare(o.Name, e.Name) > 0 }); i >= 0 {
		return slices.Insert(l, i, e)
	}
	return append(l, e)
}

// droppedFrom is Drop by the chapter's words.
func droppedFrom(l []api.Entry, name string) ([]api.Entry, bool) {
	l = slices.Clone(l)
	i := slices.IndexFunc(l, func(o api.Entry) bool { return o.Name == name })
	if i < 0 {
		return l, false
	}
	return slices.Delete(l, i, i+1), true
}

// finds fails the test, if Find doesn't tell that.
func finds(t *testing.T, l []api.Entry, name string, want int, wantOK bool) {
	t.Helper()
	if got, ok := entry.Find(l, name); got != want || ok != wantOK {
		t.Fatalf("Find of %q in %v: %d, %t, not %d, %t", name, l[:min(len(l), 9)], got, ok, want, wantOK)
	}
}

// puts fails the test, if Put doesn't tell that.
func puts(t *testing.T, l []api.Entry, e api.Entry, want []api.Entry) {
	t.Helper()
	if got := entry.Put(l, e); !slices.Equal(got, want) {
		t.Fatalf("Put of %v into %v: %v, not %v", e, l[:min(len(l), 9)], got, want)
	}
}

// drops fails the test, if Drop doesn't tell that.
func drops(t *testing.T, l []api.Entry, name string, want []api.Entry, wantOK bool) {
	t.Helper()
	if got, ok := entry.Drop(l, name); !slices.Equal(got, want) || ok != wantOK {
		t.Fatalf("Drop of %q from %v: %v, %t, not %v, %t", name, l[:min(len(l), 9)], got, ok, want, wantOK)
	}
}

// P15.3: in empty lists.
func TestEmptyLists(t *testing.T) {
	for _, l := range [][]api.Entry{nil, {}} {
		for _, name := range []string{"", "a", "..", strings.Repeat("x", 99)} {
			finds(t, l, name, 0, false)
			drops(t, l, name, nil, false)
			puts(t, l, api.Entry{Name: name, Sector: 9}, []api.Entry{{Name: name, Sector: 9}})
		}
	}
}

// P15.3: in a folder's list: ahead of all, between, behind all, and of each name that is there.
func TestFoldersLists(t *testing.T) {
	c, e, g := api.Entry{Name: "c", Sector: 3}, api.Entry{Name: "e", Sector: 5}, api.Entry{Name: "g", Sector: 7}
	l := []api.Entry{c, e, g}
	for name, want := range map[string]func(x api.Entry) []api.Entry{
		"b":  func(x api.Entry) []api.Entry { return []api.Entry{x, c, e, g} },
		"B":  func(x api.Entry) []api.Entry { return []api.Entry{x, c, e, g} },
		"d":  func(x api.Entry) []api.Entry { return []api.Entry{c, x, e, g} },
		"cc": func(x api.Entry) []api.Entry { return []api.Entry{c, x, e, g} },
		"f":  func(x api.Entry) []api.Entry { return []api.Entry{c, e, x, g} },
		"g-": func(x api.Entry) []api.Entry { return []api.Entry{c, e, g, x} },
		"h":  func(x api.Entry) []api.Entry { return []api.Entry{c, e, g, x} },
	} {
		x := api.Entry{Name: name, Sector: 9}
		puts(t, l, x, want(x))
		finds(t, l, name, 0, false)
		drops(t, l, name, l, false)
	}
	for i, o := range l {
		finds(t, l, o.Name, o.Sector, true)
		x := api.Entry{Name: o.Name, Sector: 9}
		put := slices.Clone(l)
		put[i] = x
		puts(t, l, x, put)
		drops(t, l, o.Name, slices.Delete(slices.Clone(l), i, i+1), true)
	}
	drops(t, []api.Entry{c}, "c", nil, true)
	finds(t, []api.Entry{{Name: "a", Sector: 0}}, "a", 0, true)
}

// P15.3: names and sectors may be any, also such as no folder's list has.
func TestAnyNamesAndSectors(t *testing.T) {
	for _, name := range []string{"", ".", "..", "a/b", "\x00", "\xff\xff", "\u00e4", strings.Repeat("x", 70000)} {
		for _, sector := range append(far, 0, 65535) {
			l := []api.Entry{{Name: "b", Sector: 1}, {Name: name, Sector: sector}}
			finds(t, l, name, sector, true)
			drops(t, l, name, l[:1], true)
			x := api.Entry{Name: name, Sector: sector}
			puts(t, l[:1], x, putInto(l[:1], x))
			puts(t, l, api.Entry{Name: name, Sector: 9}, []api.Entry{l[0], {Name: name, Sector: 9}})
		}
	}
	puts(t, named("a"), api.Entry{Name: "\xff"}, []api.Entry{{Name: "a", Sector: 100}, {Name: "\xff"}})
	puts(t, named("a"), api.Entry{}, []api.Entry{{}, {Name: "a", Sector: 100}})
	puts(t, named("z"), api.Entry{Name: "\u00e4", Sector: math.MinInt}, []api.Entry{{Name: "z", Sector: 100}, {Name: "\u00e4", Sector: math.MinInt}})
}

// lists are all of up to so many entries of three names, in any order; each entry has a sector of its own.
func lists(most int) [][]api.Entry {
	all, longest := [][]api.Entry{nil}, [][]api.Entry{nil}
	for n := range most {
		var more [][]api.Entry
		for _, l := range longest {
			for _, name := range []string{"b", "bb", "d"} {
				more = append(more, append(slices.Clone(l), api.Entry{Name: name, Sector: n + 1}))
			}
		}
		longest = more
		all = append(all, more...)
	}
	return all
}

// P15.3: all lists of up to six entries, in any order, with several of one name: the first entry with a name counts.
func TestAllLists(t *testing.T) {
	for _, l := range lists(6) {
		for _, name := range []string{"", "a", "b", "ba", "bb", "c", "d", "e"} {
			sector, ok := foundIn(l, name)
			finds(t, l, name, sector, ok)
			puts(t, l, api.Entry{Name: name, Sector: 99}, putInto(l, api.Entry{Name: name, Sector: 99}))
			left, ok := droppedFrom(l, name)
			drops(t, l, name, left, ok)
		}
	}
}

// P15.3: several entries of one name, by number.
func TestSeveralOfOneName(t *testing.T) {
	l := []api.Entry{{Name: "d", Sector: 1}, {Name: "b", Sector: 2}, {Name: "d", Sector: 3}, {Name: "b", Sector: 4}}
	finds(t, l, "b", 2, true)
	finds(t, l, "d", 1, true)
	drops(t, l, "b", []api.Entry{l[0], l[2], l[3]}, true)
	puts(t, l, api.Entry{Name: "b", Sector: 9}, []api.Entry{l[0], {Name: "b", Sector: 9}, l[2], l[3]})
	puts(t, l, api.Entry{Name: "c", Sector: 9}, []api.Entry{{Name: "c", Sector: 9}, l[0], l[1], l[2], l[3]})
	puts(t, l, api.Entry{Name: "e", Sector: 9}, []api.Entry{l[0], l[1], l[2], l[3], {Name: "e", Sector: 9}})
}

// P15.4: drawn changes of a folder's list, held against what is known by names: what was put is found with the sector that was put last, what was dropped is not, and all others are as they were; it stays a folder's list, with as many bytes as Size says.
func TestDrawnChanges(t *testing.T) {
	d := draws(4)
	for range 200 {
		l, known := []api.Entry(nil), map[string]int{}
		for range 120 {
			name := d.name()
			if d.below(5) < 3 {
				known[name] = d.below(65536)
				l = entry.Put(l, api.Entry{Name: name, Sector: known[name]})
			} else {
				_, there := known[name]
				delete(known, name)
				left, ok := entry.Drop(l, name)
				if l = left; ok != there {
					t.Fatalf("Drop of %q: %t", name, ok)
				}
			}
			sector, there := known[name]
			finds(t, l, name, sector, there)
			other := d.name()
			sector, there = known[other]
			finds(t, l, other, sector, there)
		}
		if len(l) != len(known) || !isList(l) {
			t.Fatalf("of %d names there are %d: %v", len(known), len(l), l)
		}
		for name, sector := range known {
			finds(t, l, name, sector, true)
		}
		writes(t, "behind changes", l, written(l))
	}
}

// P15.4: one change of a drawn list leaves all others of it as they were.
func TestChangesLeaveOthers(t *testing.T) {
	d := draws(5)
	for range 2000 {
		l := d.list(1 + d.below(12))
		name := d.name()
		if d.below(2) == 0 {
			name = l[d.below(len(l))].Name
		}
		put := entry.Put(l, api.Entry{Name: name, Sector: 77})
		left, there := entry.Drop(l, name)
		finds(t, put, name, 77, true)
		finds(t, left, name, 0, false)
		if !isList(put) || !isList(left) || there && len(put) != len(l) || !there && len(put) != len(l)+1 || len(left) >= len(put) {
			t.Fatalf("%q put to %v and dropped: %v, %v", name, l, put, left)
		}
		for _, o := range l {
			if o.Name != name {
				finds(t, put, o.Name, o.Sector, true)
				finds(t, left, o.Name, o.Sector, true)
			}
		}
	}
}

// spoil writes over all of a list, as far as it has room.
func spoil(l []api.Entry) {
	l = l[:cap(l)]
	for i := range l {
		l[i] = api.Entry{Name: "spoiled", Sector: -1}
	}
}

// R3: what is handed in stays as it was, up to its capacity, and what is told is its owner's, whatever is done to it, or to what was handed in.
func TestMemory(t *testing.T) {
	for _, x := range []string{"a", "c", "d", "e", "g", "z"} {
		l := append(make([]api.Entry, 0, 20), named("c", "e", "g")...)
		was := slices.Clone(l[:cap(l)])
		e := api.Entry{Name: x, Sector: 9}
		told := func() [][]api.Entry {
			left, _ := entry.Drop(l, x)
			return [][]api.Entry{entry.Put(l, e), left, entry.Put(l[:1], e), entry.Put(l[1:], e)}
		}
		left, _ := droppedFrom(named("c", "e", "g"), x)
		want := [][]api.Entry{putInto(was[:3], e), left, putInto(was[:1], e), putInto(was[1:3], e)}
		first := told()
		for _, got := range first {
			spoil(got)
		}
		if !slices.Equal(l[:cap(l)], was) {
			t.Fatalf("with %q, what is told is what was handed in", x)
		}
		second := told()
		spoil(l)
		for i := range second {
			if !slices.Equal(second[i], want[i]) {
				t.Fatalf("with %q, what is told is %v, not %v", x, second[i], want[i])
			}
		}
	}
	s := written(named("c", "e"))
	a, _ := entry.Read(s)
	b, _ := entry.Read(s)
	spoil(a)
	if !slices.Equal(b, named("c", "e")) {
		t.Error("what is read hangs on another answer")
	}
	names, _ := entry.Split("/a/b/c")
	others, _ := entry.Split("/a/b/c")
	clear(names[:cap(names)])
	if !slices.Equal(others, []string{"a", "b", "c"}) {
		t.Error("what is split hangs on another answer")
	}
}
