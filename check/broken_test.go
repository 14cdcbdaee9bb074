package check_test

import (
	"fmt"
	"maps"
	"slices"
	"strings"
	"testing"

	"lockgate/api"
	"lockgate/check"
)

// at is where what a path leads to lies.
func (d *shelf) at(path string) int {
	names := strings.Split(path[1:], "/")
	folder := begin(d.l, sum(names[0])) + 1
	for _, n := range names {
		for _, e := range d.list(folder) {
			if e.Name == n {
				folder = e.Sector
				break
			}
		}
	}
	return folder
}

// node and list are what lies of a thing in a sector.
func (d *shelf) node(at int) node { n, _ := nodeOf(d.s[at]); return n }

func (d *shelf) list(at int) []api.Entry {
	n := d.node(at)
	b := ""
	for _, part := range n.data {
		b += d.s[part]
	}
	l, _ := listOf(b[:n.size])
	return l
}

// entries is a change of a folder's list that is as long as the old one: a name leads elsewhere.
func (d *shelf) entries(folder int, name string, sector int) api.Change {
	l := d.list(folder)
	for i := range l {
		if l[i].Name == name {
			l[i].Sector = sector
		}
	}
	return lie(d.node(folder).data[0], listText(l...))
}

// thing is a change of what lies in a thing's sector.
func (d *shelf) thing(at int, change func(n *node)) api.Change {
	n := d.node(at)
	n.data = slices.Clone(n.data)
	change(&n)
	return lie(at, n.text())
}

// junk are texts that are no map and no thing.
var junk = []string{"", "x", strings.Repeat("\x00", 511), strings.Repeat("\x00", 512), strings.Repeat("\x00", 513), strings.Repeat("\xff", 512), filled(""), filled("LGI1"), filled("LGI1\x00\x02\x00\x01\x00\x00\x00"), filled("LGI2\x00\x02\x00\x01\x00\x00\x00\x00"), filled("LGI1\x00\x02\x00\x01\x00\x00\x00\x00\x00"), node{2, 1, 0, nil}.text()[:511] + "x", node{2, 1, 0, nil}.text()[:511]}

// looked looks what is told of a disk that is not right, and that it was right but for that.
func looked(t *testing.T, what string, d *shelf, row ...api.Change) {
	t.Helper()
	if same(t, what+", not yet", d) != api.OK {
		t.Fatalf("%s: it isn't right", what)
	}
	if e := same(t, what, d.with(row...)); e != api.ErrBad {
		t.Errorf("%s: told %v", what, e)
	}
}

// P20.1: sector 0 has the bytes of that layout.
func TestSectorZero(t *testing.T) {
	d, _ := on(t, roomy, base...)
	old := d.s[0]
	other := []string{old[:511] + "x", old[:511], "", newShelf(t, sized(roomy.Sectors, 2)).s[0], newShelf(t, sized(roomy.Sectors-1, 1)).s[0], newShelf(t, sized(roomy.Sectors+1, 1)).s[0], filled("LGS1"), d.s[1], strings.Repeat("\x00", 512)}
	for _, s := range other {
		looked(t, "sector 0", d, lie(0, s))
	}
	for i := range 12 {
		looked(t, "sector 0", d, lie(0, old[:i]+string(old[i]+1)+old[i+1:]))
	}
}

// P20.1 and P20.2: each zone has a map of its sectors, of which bits 0 and 1 are taken.
func TestMaps(t *testing.T) {
	d, _ := on(t, roomy, base...)
	for zone := range 4 {
		at := begin(roomy, zone)
		m, _ := mapOf(roomy, d.s[at])
		with := func(place int, is bool) string {
			other := maps.Clone(m)
			other[place] = is
			return mapText(roomy, other)
		}
		old, _ := unfilled(d.s[at])
		wrong := append([]string{with(0, false), with(1, false), with(100, true), with(103, true), filled(old + "\x00"), filled(old[:12]), d.s[at][:511] + "\x01", d.s[at][:511], filled(old[:12] + "\xff")}, junk...)
		for _, s := range wrong {
			looked(t, fmt.Sprint("zone ", zone, "'s map"), d, lie(at, s))
			if n := d.with(lie(at, s)).taken(t); n != -1 {
				t.Errorf("zone %d: %d are taken", zone, n)
			}
		}
	}
}

// P20.2: how many are taken hangs on the maps alone.
func TestTaken(t *testing.T) {
	d, x := on(t, roomy, base...)
	n := 4*98 - x.Free()
	other := []*shelf{d, d.with(lie(0, "")), d.with(lie(begin(roomy, 2)+1, "")), d.with(lie(d.at("/d"), "")), d.with(d.taking(nil, []int{d.at("/d")})...), d.with(d.taking([]int{begin(roomy, 3) + 99, begin(roomy, 0) + 98}, nil)...)}
	for i, want := range []int{n, n, n, n, n - 1, n + 2} {
		if got := other[i].taken(t); got != want {
			t.Errorf("disk %d: %d are taken, want %d", i, got, want)
		}
	}
	every := []int{}
	for zone := range 4 {
		for place := 2; place < 100; place++ {
			every = append(every, begin(roomy, zone)+place)
		}
	}
	if got := d.with(d.taking(every, nil)...).taken(t); got != 4*98 {
		t.Errorf("all: %d are taken", got)
	}
	if got := d.with(d.taking(nil, every)...).taken(t); got != 0 {
		t.Errorf("none: %d are taken", got)
	}
}

// P20.1: in each zone's second sector lies a folder.
func TestZonesFolders(t *testing.T) {
	d, _ := on(t, roomy, create("/f"), mkdir("/d"))
	for zone := range 4 {
		at := begin(roomy, zone) + 1
		for _, s := range append([]string{d.s[at-1], d.s[0]}, junk...) {
			looked(t, "a zone's folder", d, lie(at, s))
		}
	}
	for _, zone := range []int{1, 3} { // nothing is in these
		looked(t, "a zone's folder is a file", d, lie(begin(roomy, zone)+1, node{1, 1, 0, nil}.text()))
	}
}

// foreign are sectors in which no thing, and no bytes of one, may lie.
var foreign = []int{0, 1, 2, 41, begin(roomy, 0), begin(roomy, 0) + 1, begin(roomy, 1), begin(roomy, 1) + 1, begin(roomy, 3), begin(roomy, 3) + 1, 442, 444, 445, 1000, 65535}

// P20.1: each name leads to a thing in a sector of a zone, in a place from 2 on.
func TestNamesLeadToThings(t *testing.T) {
	d, _ := on(t, roomy, mkdir("/d"), create("/d/x"), mkdir("/d/y"), create("/a"))
	free := d.taking(nil, []int{d.at("/d/x")})
	for _, at := range foreign {
		looked(t, "a name", d, append(free, d.entries(d.at("/d"), "x", at))...)
		looked(t, "a name of the root", d, append(d.taking(nil, []int{d.at("/a")}), d.entries(begin(roomy, 1)+1, "a", at))...)
	}
	for _, path := range []string{"/d", "/d/x", "/d/y", "/a"} {
		for _, s := range append([]string{d.s[0], d.s[begin(roomy, 0)], listText(api.Entry{Name: "a", Sector: 300})}, junk...) {
			looked(t, "what lies at "+path, d, lie(d.at(path), s))
			looked(t, "what lies at "+path+", which is not taken", d, append(d.taking(nil, []int{d.at(path)}), lie(d.at(path), s))...)
		}
	}
	// Other sectors that are one's own are as good.
	now := d.with(append(d.taking([]int{441}, []int{d.at("/d/x")}), d.entries(d.at("/d"), "x", 441), lie(441, d.s[d.at("/d/x")]))...)
	if e := same(t, "another sector", now); e != api.OK {
		t.Errorf("another sector: %v", e)
	}
}

// P20.1: a folder has one name alone, and is neither in itself nor in a folder below it.
func TestFoldersNames(t *testing.T) {
	d, _ := on(t, roomy, mkdir("/d"), mkdir("/d/e"), mkdir("/d/e/g"), create("/d/x"), create("/d/e/y"), create("/d/e/g/z"), mkdir("/h"), create("/l"))
	moved := func(folder, name, to string) []api.Change {
		return append(d.taking(nil, []int{d.at(folder + "/" + name)}), d.entries(d.at(folder), name, d.at(to)))
	}
	looked(t, "two names in a list", d, moved("/d", "x", "/d/e")...)
	looked(t, "two names in two lists", d, moved("/d/e", "y", "/h")...)
	looked(t, "two names, one of the root", d, append(d.taking(nil, []int{d.at("/l")}), d.entries(begin(roomy, 0)+1, "l", d.at("/d/e")))...)
	looked(t, "in itself", d, moved("/d", "x", "/d")...)
	looked(t, "in one below it", d, moved("/d/e", "y", "/d")...)
	looked(t, "in one far below it", d, moved("/d/e/g", "z", "/d")...)
	looked(t, "a zone's folder", d, append(d.taking(nil, []int{d.at("/d/x")}), d.entries(d.at("/d"), "x", begin(roomy, 1)+1))...)
	looked(t, "two links", d, d.thing(d.at("/h"), func(n *node) { n.links = 2 }))
	// A ring of which no list of the root knows: nobody's sectors are taken.
	looked(t, "a ring", d, d.entries(begin(roomy, 0)+1, "d", d.at("/h")), d.entries(d.at("/d/e/g"), "z", d.at("/d")))
}

// P20.1: a file has as many names as its Links say.
func TestLinks(t *testing.T) {
	d, _ := on(t, roomy, create("/f"), mkdir("/d"), link("/f", "/d/f"), link("/f", "/g"), create("/d/x"), create("/j"))
	for _, links := range []int{0, 1, 2, 4, 5, 999, 1000, 1001} {
		looked(t, fmt.Sprint("links ", links), d, d.thing(d.at("/f"), func(n *node) { n.links = links }))
	}
	for _, links := range []int{2, 1000} {
		looked(t, fmt.Sprint("links ", links), d, d.thing(d.at("/j"), func(n *node) { n.links = links }))
	}
	looked(t, "one name more", d, append(d.taking(nil, []int{d.at("/d/x")}), d.entries(d.at("/d"), "x", d.at("/f")))...)
	looked(t, "one name fewer", d, d.entries(d.at("/d"), "f", d.at("/d/x")))
	more := append(d.taking(nil, []int{d.at("/d/x")}), d.entries(d.at("/d"), "x", d.at("/f")), d.thing(d.at("/f"), func(n *node) { n.links = 4 }))
	if e := same(t, "both", d.with(more...)); e != api.OK {
		t.Errorf("one name more, and one link: %v", e)
	}
}

// P20.1: a folder's bytes are those of a list; those of the root's lists have names of their zones.
func TestLists(t *testing.T) {
	d, _ := on(t, roomy, create("/a"), create("/e"), mkdir("/i"), create("/i/b"), create("/i/c"))
	top := begin(roomy, 1) + 1
	l, sub := d.list(top), d.list(d.at("/i"))
	in := func(folder int, l ...api.Entry) api.Change { return lie(d.node(folder).data[0], listText(l...)) }
	named := func(l []api.Entry, names ...string) []api.Entry {
		l = slices.Clone(l)
		for i, n := range names {
			l[i].Name = n
		}
		return l
	}
	for _, names := range [][]string{{"e", "a", "i"}, {"a", "i", "e"}, {"a", "a", "e"}, {"a", "e", "e"}, {"a", ".", "i"}, {"a", "e", " "}, {"a", "e", "\xff"}, {"a", "e", "/"}, {"a", "b", "i"}, {"a", "e", "j"}, {"b", "e", "i"}, {"d", "e", "i"}, {"A", "D", "i"}} {
		looked(t, fmt.Sprint("names ", names), d, in(top, named(l, names...)...))
	}
	for _, names := range [][]string{{"c", "b"}, {"b", "b"}, {"b", "/"}, {".", "c"}} {
		looked(t, fmt.Sprint("names in a folder ", names), d, in(d.at("/i"), named(sub, names...)...))
	}
	for _, names := range [][]string{{"A", "E"}, {"w", "z"}, {"_", "a"}} { // of all zones
		if e := same(t, "other names", d.with(in(d.at("/i"), named(sub, names...)...))); e != api.OK {
			t.Errorf("names in a folder %v: %v", names, e)
		}
	}
	size := d.node(top).size
	for _, other := range []int{size - 1, size + 1, size - 7, size + 7, 1, 6} {
		looked(t, fmt.Sprint("a list of ", other), d, d.thing(top, func(n *node) { n.size = other }))
	}
	looked(t, "no list", d, lie(d.node(top).data[0], strings.Repeat("\xff", 512)))
	looked(t, "no sector", d, lie(d.node(top).data[0], d.s[d.node(top).data[0]][:511]))
}

// P20.1: bytes lie in sectors of zones, in places from 2 on, each sector once.
func TestData(t *testing.T) {
	d, _ := on(t, roomy, create("/f"), write("/f", 0, strings.Repeat("f", 1200)), create("/g"), write("/g", 0, strings.Repeat("g", 600)), mkdir("/d"), create("/d/x"), create("/b"))
	f, g := d.at("/f"), d.at("/g")
	data, other := d.node(f).data, d.node(g).data
	puts := func(at, i, sector int) []api.Change {
		free := d.node(at).data[i]
		return append(d.taking(nil, []int{free}), d.thing(at, func(n *node) { n.data[i] = sector }))
	}
	for _, at := range foreign {
		for i := range 3 {
			looked(t, "a file's bytes", d, puts(f, i, at)...)
		}
		looked(t, "a folder's bytes", d, append(puts(d.at("/d"), 0, at), d.taking(nil, []int{d.at("/d/x"), d.node(d.at("/d")).data[0]})...)...)
	}
	for i := range 3 {
		looked(t, "twice in one", d, puts(f, i, data[(i+1)%3])...)
		looked(t, "another one's bytes", d, puts(f, i, other[0])...)
		looked(t, "its own sector", d, puts(f, i, f)...)
		looked(t, "another one's sector", d, puts(f, i, g)...)
		looked(t, "a folder's sector", d, puts(f, i, d.at("/d"))...)
		looked(t, "a folder's bytes", d, puts(f, i, d.node(d.at("/d")).data[0])...)
		looked(t, "an empty file's sector", d, puts(f, i, d.at("/b"))...)
	}
	looked(t, "two with all the same", d, append(d.taking(nil, other), d.thing(g, func(n *node) { n.data = data[:2] }))...)
	looked(t, "no sector", d, lie(data[2], strings.Repeat("f", 511)))
	looked(t, "no sector", d, lie(data[0], ""))
	looked(t, "too many", d, append(d.taking([]int{441}, nil), d.thing(f, func(n *node) { n.data = append(n.data, 441) }))...)
	looked(t, "too few", d, append(d.taking(nil, data[2:]), d.thing(f, func(n *node) { n.data = data[:2] }))...)
	// Another one that is free is as good, in any order.
	now := append(d.taking([]int{441}, data[1:2]), d.thing(f, func(n *node) { n.data = []int{data[2], 441, data[0]} }))
	if e := same(t, "others", d.with(now...)); e != api.OK {
		t.Errorf("other sectors: %v", e)
	}
}

// P20.1: a sector of a zone is taken just if it is something's.
func TestJustThese(t *testing.T) {
	d, _ := on(t, roomy, base...)
	_, before := of(d)
	for zone := range 4 {
		m, _ := mapOf(roomy, d.s[begin(roomy, zone)])
		for place := 2; place < 100; place++ {
			at := begin(roomy, zone) + place
			if m[place] {
				looked(t, "somebody's, and not taken", d, d.taking(nil, []int{at})...)
			} else {
				looked(t, "taken, and nobody's", d, d.taking([]int{at}, nil)...)
			}
		}
	}
	if before != "" {
		t.Error(before)
	}
}

// P20.1: what lies in no zone, but in sector 0, doesn't matter; nor what lies in sectors that aren't taken.
func TestDoesNotMatter(t *testing.T) {
	d, x := on(t, roomy, base...)
	now := d.with()
	for at := range now.s {
		zone := zoneOf(roomy, at)
		if at == 0 {
			continue
		}
		if zone < 0 {
			now.s[at] = "whatever"
			continue
		}
		if m, _ := mapOf(roomy, d.s[begin(roomy, zone)]); !m[at-begin(roomy, zone)] {
			now.s[at] = "whatever"
		}
	}
	if l, e := now.lines(t); e != api.OK || !slices.Equal(l, x.All()) {
		t.Errorf("told %v, %d lines", e, len(l))
	}
}

// P20.1 and P20.2: disks on which anything lies: what is told is what the chapter says, sentence by sentence, and each call ends.
func TestDrawnBroken(t *testing.T) {
	d := draws(33)
	told := map[api.Errno]int{}
	for range 150 {
		disk, x := on(t, pick(&d, sized(2+40+60, 1), sized(2+40+100, 1), roomy), create("/a"))
		for range 40 {
			c := d.call(x.All())
			disk.do(c)
			x.Do(c)
		}
		used := []int{0}
		for at := range disk.s {
			if zone := zoneOf(disk.l, at); zone >= 0 {
				if m, _ := mapOf(disk.l, disk.s[begin(disk.l, zone)]); m[at-begin(disk.l, zone)] {
					used = append(used, at)
				}
			}
		}
		for range 30 {
			now := disk.with()
			for range 1 + d.below(2) {
				at := used[d.below(len(used))]
				now.s[at] = d.spoiled(now, used, at)
			}
			told[same(t, "spoiled", now)]++
		}
	}
	if told[api.OK] < 200 || told[api.ErrBad] < 2000 {
		t.Errorf("told %v", told)
	}
}

// spoiled is what else might lie in a sector.
func (d *draws) spoiled(now *shelf, used []int, at int) string {
	b := []byte(now.s[at])
	switch d.below(5) {
	case 0:
		return now.s[used[d.below(len(used))]]
	case 1:
		return pick(d, junk...)
	case 2: // another sector's number
		other := used[d.below(len(used))]
		if i := d.below(60); len(b) > i+4 {
			copy(b[i:], []byte{0, 0, byte(other >> 8), byte(other)})
		}
	case 3:
		if n, ok := nodeOf(now.s[at]); ok {
			n.links = pick(d, n.links, n.links, 1, 2, 3)
			n.kind = pick(d, n.kind, n.kind, 1, 2)
			n.size += pick(d, 0, 1, -1, 7, -7, 512)
			return n.text()
		}
	default:
		if len(b) > 0 {
			b[d.below(min(len(b), 60))] = byte(d.below(256))
		}
	}
	return string(b)
}

// P20.1: a disk of great size, all of whose sectors say the same, is gone over in a moment.
func TestAllTheSame(t *testing.T) {
	l := sized(65536, 1)
	texts := append([]string{node{2, 1, 7, []int{300}}.text(), listText(api.Entry{Name: "a", Sector: 300}), node{1, 1000, 0, nil}.text(), node{2, 1, 6144, []int{300, 301, 302, 303, 304, 305, 306, 307, 308, 309, 310, 311}}.text()}, junk...)
	for _, s := range texts {
		if lines, e := check.Lines(l, func(at int) string {
			if at == 0 {
				return newShelf(t, l).s[0]
			}
			for zone := range 4 {
				if at == begin(l, zone) {
					return mapText(l, map[int]bool{0: true, 1: true})
				}
			}
			return s
		}); e != api.ErrBad || len(lines) != 0 {
			t.Errorf("%.20q: %v", s, e)
		}
	}
}
