package ops_test

import (
	"slices"
	"strings"
	"testing"

	"lockgate/api"
	"lockgate/ops"
)

// look does calls on a disk that is another than it was, and looks which are told ErrBad: those of bad; the others are told as ever, and change what they change.
func look(t *testing.T, what string, p *trio, now *shelf, bad, fine []api.Call) {
	t.Helper()
	for _, c := range bad {
		if r, row, _ := now.do(t, c); r.Err != api.ErrBad || len(row) != 0 {
			t.Errorf("%s: %s: told %s, with %d changes", what, show(c), short(r), len(row))
		}
	}
	for _, c := range fine {
		r, row, m := now.do(t, c)
		want, wantRow, wantModes := p.d.do(t, c)
		if !equal(r, want) || !slices.Equal(row, wantRow) || !slices.Equal(m, wantModes) {
			t.Errorf("%s: %s: told %s, changes %v, modes %v; want %s, %v, %v", what, show(c), short(r), places(row), m, short(want), places(wantRow), wantModes)
		}
	}
}

// with is a disk on which something else lies in some sectors.
func (d *shelf) with(row ...api.Change) *shelf {
	now := d.copied()
	now.apply(row)
	return now
}

// lie is a change.
func lie(at int, s string) api.Change { return api.Change{Sector: at, S: s} }

// junk are bytes that are no map, no thing and no list.
func junk(l api.Layout) []string {
	return []string{
		"", "x", strings.Repeat("\x00", 512), strings.Repeat("\xff", 512), strings.Repeat("\x00", 511), strings.Repeat("\x00", 513), filled(""), filled("LGI1"), filled("LGS1"), mixed(512),
		filled(mapText(make([]bool, l.Size))), filled(inodeText(3, 1, 0, nil)), filled(inodeText(0, 1, 0, nil)), filled(inodeText(1, 0, 0, nil)), filled(inodeText(1, 1001, 0, nil)), filled(inodeText(2, 2, 0, nil)),
		filled(inodeText(1, 1, 1, nil)), filled(inodeText(2, 1, 0, []int{300})), filled(inodeText(2, 1, 6145, []int{201, 202, 203, 204, 205, 206, 207, 208, 209, 210, 211, 212, 213})), filled(inodeText(1, 1, 513, []int{300, 300})),
		filled(inodeText(1, 1, 0, nil) + "\x00"), inodeText(1, 1, 0, nil) + strings.Repeat("\x00", 500), filled(inodeText(2, 1, 0, nil))[:511] + "x",
	}
}

// P19.2: a map that is none.
func TestBrokenMaps(t *testing.T) {
	p := on(t, roomy, base...)
	place := func(zone, from int, bits ...bool) string {
		taken := slices.Clone(p.w.taken[zone])
		copy(taken[from:], bits)
		return filled(mapText(taken))
	}
	for zone := range 4 {
		old := mapText(p.w.taken[zone])
		wrong := append(junk(roomy), place(zone, 0, false), place(zone, 1, false), place(zone, 0, false, false), filled(mapText(append(slices.Clone(p.w.taken[zone]), true))), filled(old+"\x00"), filled(old[:len(old)-1]), filled(old)[:511]+"\x01")
		name := "/" + string(rune('`'+4+zone)) + "n"
		for sumOf(name[1:]) != zone {
			name += "n"
		}
		ofZone := [][]api.Call{{unlink("/d/g"), create("/d/x"), unlink("/d/e/h"), truncate("/d/g", 0)}, {}, {truncate("/f", 513), write("/f", 512, "x")}, {create("/o/x"), unlink("/o")}}
		for _, s := range wrong {
			look(t, "a map", p, p.d.with(lie(begin(roomy, zone), s)), append(ofZone[zone], statfs(), create(name), mkdir(name)),
				[]api.Call{readdir("/"), stat("/"), read("/f", 0, 99), write("/f", 3, "x"), rename("/d/g", "/d/h"), stat(name), create(name + "/x"), create("/f"), {Op: api.OpSync}, truncate("/d/g", 601)})
		}
	}
}

// P19.2: a zone's folder that is none.
func TestBrokenTops(t *testing.T) {
	p := on(t, roomy, base...)
	wrong := append(junk(roomy), filled(inodeText(1, 1, 0, nil)), filled(inodeText(1, 1, 7, []int{300})))
	for i, c := range []struct{ bad, fine []api.Call }{
		{[]api.Call{stat("/d"), create("/d"), create("/h"), readdir("/d/e"), stat("/l/x"), unlink("/d/e"), rename("/f", "/d/x"), link("/f", "/l"), rename("/d/g", "/x")}, []api.Call{stat("/f"), read("/f", 0, 9), create("/a"), statfs(), rename("/f", "/a")}},
		{[]api.Call{stat("/a"), create("/a"), rename("/f", "/a"), stat("/no/x")}, []api.Call{stat("/f"), create("/h"), rename("/f", "/d/e/x")}},
		{[]api.Call{stat("/f"), read("/f", 0, 0), create("/b"), link("/f", "/a"), link("/d/g", "/b"), rename("/d", "/b")}, []api.Call{stat("/d/e/j"), rename("/d", "/o/d"), write("/t", 0, "x")}},
		{[]api.Call{stat("/o"), unlink("/o"), create("/o/x"), rename("/f", "/o/f")}, []api.Call{stat("/f"), unlink("/f"), readdir("/d")}},
	} {
		for _, s := range wrong {
			look(t, "a zone's folder", p, p.d.with(lie(begin(roomy, i)+1, s)), append(c.bad, readdir("/"), stat("/")), c.fine)
		}
	}
}

// at is the thing at a path.
func (w *world) at(path string) *obj {
	names := strings.Split(path[1:], "/")
	o := w.tops[sumOf(names[0])]
	for _, name := range names {
		o = o.names[name]
	}
	return o
}

// P19.2: a thing's sector that is none's.
func TestBrokenThings(t *testing.T) {
	p := on(t, roomy, base...)
	d, g, f := p.w.at("/d").at, p.w.at("/d/g").at, p.w.at("/f").at
	for _, s := range junk(roomy) {
		look(t, "a folder", p, p.d.with(lie(d, s)), []api.Call{stat("/d"), readdir("/d"), stat("/d/g"), create("/d/x"), unlink("/d"), rename("/d", "/x"), rename("/f", "/d/f"), link("/d", "/x"), write("/d", 0, "x"), stat("/d/no/x")},
			[]api.Call{stat("/f"), readdir("/"), create("/d"), create("/h"), rename("/f", "/d"), stat("/"), statfs()})
		look(t, "a file", p, p.d.with(lie(g, s)), []api.Call{stat("/d/g"), read("/d/g", 0, 0), unlink("/d/g"), rename("/d/g", "/a"), link("/d/g", "/x"), write("/d/g", 0, ""), truncate("/d/g", 601), create("/d/g/x"), readdir("/d/g")},
			[]api.Call{readdir("/d"), create("/d/g"), create("/d/x"), stat("/d/e/h"), rename("/f", "/d/g"), unlink("/d/e/h")})
		look(t, "a file with two names", p, p.d.with(lie(f, s)), []api.Call{stat("/f"), stat("/d/e/j"), unlink("/d/e/j"), unlink("/f")}, []api.Call{stat("/t"), unlink("/d/e/h"), readdir("/d/e")})
	}
}

// P19.2: a thing whose bytes, or whose name's sector, lie where none may lie.
func TestForeign(t *testing.T) {
	p := on(t, roomy, base...)
	d, g := p.w.at("/d"), p.w.at("/d/g")
	foreign := []int{0, 1, 2, 41, begin(roomy, 0), begin(roomy, 0) + 1, begin(roomy, 3), begin(roomy, 3) + 1, begin(roomy, 4), 1000, 65535}
	for _, at := range foreign {
		now := p.d.with(lie(g.at, filled(inodeText(1, 1, 601, []int{at, g.data[1]}))))
		look(t, "bytes", p, now, []api.Call{read("/d/g", 0, 1), read("/d/g", 600, 1), stat("/d/g"), unlink("/d/g"), write("/d/g", 0, "x"), truncate("/d/g", 0), rename("/d/g", "/a")}, []api.Call{create("/d/x"), readdir("/d"), create("/d/g")})
		list := strings.Replace(p.d.s[d.data[0]], string([]byte{0, 1, 'g', 0, 0, byte(g.at >> 8), byte(g.at)}), string([]byte{0, 1, 'g', 0, 0, byte(at >> 8), byte(at)}), 1)
		look(t, "a name", p, p.d.with(lie(d.data[0], list)), []api.Call{stat("/d/g"), read("/d/g", 0, 1), unlink("/d/g"), rename("/d/g", "/x"), readdir("/d/g")}, []api.Call{stat("/f"), stat("/d")})
		now = p.d.with(lie(d.at, filled(inodeText(2, 1, d.inodeSize(), []int{at}))))
		look(t, "a list", p, now, []api.Call{stat("/d/g"), readdir("/d"), create("/d/x"), stat("/d"), unlink("/d"), rename("/f", "/d/x")}, []api.Call{stat("/f"), readdir("/"), create("/d")})
		now = p.d.with(lie(begin(roomy, 1)+1, filled(inodeText(2, 1, 7, []int{at}))))
		look(t, "a zone's list", p, now, []api.Call{stat("/a"), readdir("/"), create("/a"), stat("/")}, []api.Call{stat("/f"), readdir("/d"), create("/h")})
	}
}

// inodeSize is how many bytes a thing has.
func (o *obj) inodeSize() int { return len(o.text()) }

// P19.2: a folder's bytes that are no list, and a list of the root with names of other zones.
func TestBrokenLists(t *testing.T) {
	p := on(t, roomy, append(slices.Clone(base), create("/a"), create("/e"))...)
	d, top := p.w.at("/d"), p.w.tops[1]
	entry := func(name string, at int) string {
		return "\x00" + string(rune(len(name))) + name + string([]byte{0, 0, byte(at >> 8), byte(at)})
	}
	a, e := p.w.at("/a").at, p.w.at("/e").at
	fits := func(s string) string { return s + strings.Repeat("\x00", 512-len(s)) }
	calls := []api.Call{stat("/a"), create("/a"), unlink("/e"), readdir("/"), create("/i"), stat("/q")}
	for i, s := range []string{
		entry("e", e) + entry("a", a), entry("a", a) + entry("a", e), entry("a", a) + entry("b", e), entry("a", a) + entry("f", e), entry("a", a) + "\x00\x01e\x00\x01\x00\x00", "\x00\x01.\x00\x00\x01\x00" + entry("e", e),
		entry("a", a) + "\x00\x01e\x01\x00\x00\x00", entry("a", a) + "\x00\x03eee\x00\x00", "\x00\x00\x00\x00\x00\x00\x00\x00\x00\x00\x00\x00\x00\x00", strings.Repeat("\xff", 14),
	} {
		if len(s) != 14 {
			t.Fatalf("list %d has %d bytes", i, len(s))
		}
		look(t, "a list of the root", p, p.d.with(lie(top.data[0], fits(s))), calls, []api.Call{stat("/f"), create("/h"), stat("/")})
	}
	good := p.d.s[top.data[0]]
	for _, s := range []string{good[:511], good + "\x00", "", good[:14]} {
		look(t, "behind a list", p, p.d.with(lie(top.data[0], s)), calls, []api.Call{stat("/f"), create("/h"), stat("/")})
	}
	for _, s := range []string{good[:511] + "x", good[:14] + strings.Repeat("x", 498)} {
		look(t, "behind a list", p, p.d.with(lie(top.data[0], s)), nil, append(calls, stat("/f"), rename("/a", "/m")))
	}
	// In a folder names of all zones may stand; no others.
	for _, s := range []string{entry("e", d.names["e"].at) + entry("e", d.names["g"].at), entry("g", d.names["g"].at) + entry("e", d.names["e"].at), entry("e", d.names["e"].at) + entry(" ", d.names["g"].at)} {
		look(t, "a folder's list", p, p.d.with(lie(d.data[0], fits(s))), []api.Call{stat("/d/e"), stat("/d/x"), readdir("/d"), create("/d/x"), unlink("/d/g"), rename("/f", "/d/x")}, []api.Call{stat("/f"), stat("/d"), readdir("/"), unlink("/d")})
	}
}

// P19.2: what lies behind a file's last byte is none of its bytes, and never gets one; what is written there is cut as chapter 14 cuts it.
func TestBehindBytes(t *testing.T) {
	p := on(t, roomy, base...)
	g := p.w.at("/d/g") // 601 bytes
	good := p.d.s[g.data[1]]
	for _, s := range []string{good[:511], good + "\x00", "", good[:89]} {
		look(t, "behind", p, p.d.with(lie(g.data[1], s)), []api.Call{read("/d/g", 600, 1), read("/d/g", 0, 601), read("/d/g", 512, 6144), write("/d/g", 600, "y"), write("/d/g", 602, ""), truncate("/d/g", 600), truncate("/d/g", 602), truncate("/d/g", 6144)},
			[]api.Call{read("/d/g", 0, 512), stat("/d/g"), write("/d/g", 0, "y"), write("/d/g", 512, mixed(512)), truncate("/d/g", 512), truncate("/d/g", 7), unlink("/d/g"), rename("/d/g", "/a"), read("/d/g", 601, 1), read("/d/g", 512, 0), write("/d/g", 601, ""), truncate("/d/g", 601)})
	}
	now := p.d.with(lie(g.data[1], good[:89]+strings.Repeat("x", 423)))
	look(t, "behind", p, now, nil, []api.Call{read("/d/g", 0, 6144), read("/d/g", 600, 9), stat("/d/g"), write("/d/g", 512, "y"), write("/d/g", 600, "yy"), write("/d/g", 700, "y"), write("/d/g", 2000, "y"), write("/d/g", 1024, ""), truncate("/d/g", 600), truncate("/d/g", 602), truncate("/d/g", 1023), truncate("/d/g", 6144), write("/d/g", 0, mixed(6144)), unlink("/d/g")})
	// Other bytes are other bytes.
	now = p.d.with(lie(g.data[0], mixed(512)))
	if r, _, _ := now.do(t, read("/d/g", 0, 3)); r.Data != mixed(512)[:3] {
		t.Errorf("told %s", short(r))
	}
}

// P19.2: a sector that is two things', as far as both were looked at; a folder with two names; a file with more than it has.
func TestTwoThings(t *testing.T) {
	p := on(t, roomy, append(slices.Clone(base), create("/a"), create("/e"), mkdir("/i"), mkdir("/i/m"), create("/i/q"), write("/i/q", 0, "q"))...)
	a, e, i, m, q, f := p.w.at("/a"), p.w.at("/e"), p.w.at("/i"), p.w.at("/i/m"), p.w.at("/i/q"), p.w.at("/f")
	top := p.w.tops[1]
	// list is a folder's list in which some names have other sectors; it lies where it lay.
	list := func(o *obj, other map[string]int) api.Change {
		names := map[string]*obj{}
		for name, x := range o.names {
			names[name] = &obj{at: x.at}
		}
		for name, at := range other {
			names[name] = &obj{at: at}
		}
		b := string(listText(names))
		if len(b) != len(listText(o.names)) {
			t.Fatal("a list of another length")
		}
		return lie(o.data[0], b+strings.Repeat("\x00", 512-len(b)))
	}
	file := func(o *obj, links, size int, data ...int) api.Change {
		return lie(o.at, filled(inodeText(1, links, size, data)))
	}
	for _, c := range []struct {
		what      string
		now       *shelf
		bad, fine []api.Call
	}{
		{"a file's bytes in its own sector", p.d.with(file(a, 1, 1, a.at)), []api.Call{stat("/a"), read("/a", 0, 1), unlink("/a"), rename("/a", "/b"), write("/a", 0, "x")}, []api.Call{stat("/e"), create("/a"), readdir("/")}},
		{"in another one's that has a name there", p.d.with(file(a, 1, 1, e.at)), []api.Call{stat("/a"), read("/a", 0, 1), unlink("/a"), truncate("/a", 0)}, []api.Call{stat("/e"), unlink("/e"), readdir("/")}},
		{"in the zone's list", p.d.with(file(a, 1, 1, top.data[0])), []api.Call{stat("/a"), read("/a", 0, 1), truncate("/a", 0), unlink("/a")}, []api.Call{stat("/e")}},
		{"in a folder on the way", p.d.with(file(q, 1, 1, i.at)), []api.Call{stat("/i/q"), read("/i/q", 0, 1), unlink("/i/q")}, []api.Call{stat("/i/m"), readdir("/i")}},
		{"in its list", p.d.with(file(q, 1, 1, i.data[0])), []api.Call{stat("/i/q"), truncate("/i/q", 0)}, []api.Call{stat("/i/m"), readdir("/i")}},
		{"in a thing's of which nothing was seen", p.d.with(file(q, 1, 1, f.at)), []api.Call{link("/i/q", "/f/x"), rename("/i/q", "/b/x"), rename("/i/q", "/j")}, []api.Call{stat("/i/q"), stat("/f")}},
		{"in one that is free", p.d.with(file(q, 1, 1, begin(roomy, 1)+90)), []api.Call{unlink("/i/q"), truncate("/i/q", 0), truncate("/i/q", 513)}, []api.Call{stat("/i/q")}},
		{"a name of a free sector", p.d.with(list(i, map[string]int{"q": begin(roomy, 1) + 90}), lie(begin(roomy, 1)+90, filled(inodeText(1, 1, 0, nil)))), []api.Call{unlink("/i/q"), create("/i/x"), unlink("/i/m")}, []api.Call{readdir("/i"), stat("/i/m")}},
		{"a folder with two names", p.d.with(list(top, map[string]int{"e": i.at})), []api.Call{stat("/i"), stat("/e"), readdir("/i"), create("/i/x"), unlink("/e")}, []api.Call{stat("/a"), readdir("/")}},
		{"a folder in itself", p.d.with(list(i, map[string]int{"m": i.at})), []api.Call{stat("/i/m"), stat("/i/m/m/m/m/m/m/m"), create("/i/m/m/x"), readdir("/i/m"), readdir("/i"), stat("/i/q"), unlink("/i/q")}, []api.Call{stat("/a"), stat("/i")}},
		{"folders in each other", p.d.with(lie(m.at, filled(inodeText(2, 1, 7, []int{q.data[0]}))), lie(q.data[0], "\x00\x01x\x00\x00"+string([]byte{byte(i.at >> 8), byte(i.at)})+strings.Repeat("\x00", 505))), []api.Call{stat("/i/m/x"), stat("/i/m/x/m/x/m/x"), readdir("/i/m"), create("/i/m/y")}, []api.Call{stat("/i/q"), readdir("/i")}},
		{"a file with more names than it has", p.d.with(list(top, map[string]int{"e": a.at})), []api.Call{stat("/a"), stat("/e"), unlink("/a"), rename("/e", "/x"), link("/a", "/b")}, []api.Call{stat("/i"), readdir("/"), create("/e")}},
		{"a file of more names elsewhere", p.d.with(list(i, map[string]int{"q": a.at})), []api.Call{link("/i/q", "/e"), rename("/i/q", "/i/m/x"), stat("/i/q")}, []api.Call{stat("/a"), stat("/i/m")}},
		{"two files with the same bytes", p.d.with(file(a, 1, 1, q.data[0]), file(e, 1, 1, q.data[0])), []api.Call{link("/a", "/e/x"), rename("/a", "/e/x")}, []api.Call{stat("/i/q"), read("/i/q", 0, 1)}},
	} {
		look(t, c.what, p, c.now, c.bad, c.fine)
	}
}

// P19.2 and P19.4: whatever lies there, each call ends, asks for sectors of zones alone, and has right changes, or none with an error; where nothing that is asked for is another, all is as ever.
func TestDrawnBroken(t *testing.T) {
	d := draws(21)
	bad := 0
	for range 60 {
		p := on(t, pick(&d, small(8), small(20)), base...)
		for range 20 {
			p.do(t, d.call(p.x.All()))
		}
		for range 20 {
			now := p.d.copied()
			changed := map[int]bool{}
			used := sorted(usedOf(p.w))
			for range 1 + d.below(3) {
				at := used[d.below(len(used))]
				changed[at] = true
				now.s[at] = d.spoiled(now, used, at)
			}
			for range 8 {
				bad += spoiledCall(t, p, now, changed, d.call(p.x.All()))
			}
		}
	}
	if bad < 500 {
		t.Errorf("ErrBad was told %d times", bad)
	}
}

// usedOf are the sectors of zones in which something lies.
func usedOf(w *world) map[int]bool {
	all := map[int]bool{}
	for at := range w.sectors() {
		all[at] = true
	}
	return all
}

// spoiled is what else might lie in a sector.
func (d *draws) spoiled(now *shelf, used []int, at int) string {
	b := []byte(now.s[at])
	switch d.below(4) {
	case 0:
		return now.s[used[d.below(len(used))]]
	case 1:
		return pick(d, junk(now.l)...)
	case 2: // another sector's number
		other := used[d.below(len(used))]
		if i := d.below(60); len(b) > i+4 {
			copy(b[i:], []byte{0, 0, byte(other >> 8), byte(other)})
		}
	default:
		if len(b) > 0 {
			b[d.below(min(len(b), 60))] = byte(d.below(256))
		}
	}
	return string(b)
}

// spoiledCall does a call on a disk that was changed in some sectors; told is 1 for ErrBad.
func spoiledCall(t *testing.T, p *trio, now *shelf, changed map[int]bool, c api.Call) int {
	t.Helper()
	r, row, m := now.do(t, c)
	touched := false
	for at := range now.asked {
		touched = touched || changed[at]
	}
	if !touched {
		want, wantRow, wantModes := p.d.do(t, c)
		if !equal(r, want) || !slices.Equal(row, wantRow) || !slices.Equal(m, wantModes) {
			t.Fatalf("%s: told %s, want %s, though nothing else was seen", show(c), short(r), short(want))
		}
	}
	for at := range now.asked {
		if len(now.s[at]) != 512 && r.Err != api.ErrBad {
			t.Fatalf("%s: told %s, though in sector %d there lie %d bytes", show(c), short(r), at, len(now.s[at]))
		}
	}
	if r.Err == api.ErrBad {
		return 1
	}
	return 0
}

// P19.2: each sector is asked for once, and what is told of it then counts.
func TestAskedOnce(t *testing.T) {
	p := on(t, roomy, base...)
	for _, c := range []api.Call{rename("/d/e/h", "/d/e/x"), rename("/d/e", "/d/x"), link("/d/e/j", "/d/y"), write("/d/g", 0, "x"), readdir("/"), create("/d/e/x"), unlink("/d/g"), statfs()} {
		times := map[int]int{}
		ops.Do(roomy, func(at int) string {
			times[at]++
			return p.d.s[at]
		}, c)
		for at, n := range times {
			if n != 1 {
				t.Errorf("%s: sector %d was asked for %d times", show(c), at, n)
			}
		}
	}
}
