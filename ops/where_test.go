package ops_test

import (
	"slices"
	"testing"

	"lockgate/api"
)

// The names a, b, c and d are of zones 1, 2, 3 and 0.

// P19.2's and P19.3's examples.
func TestExamples(t *testing.T) {
	p := on(t, sized(200, 3))
	_, row, m := p.d.do(t, create("/a"))
	if !slices.Equal(places(row), []int{141, 142, 143, 144}) || !slices.Equal(m, []int{0, 2, 0, 0}) {
		t.Errorf("OpCreate: %v, %v", places(row), m)
	}
	want := []string{filled(mapText([]bool{0: true, 1: true, 2: true, 3: true, 18: false})), filled(inodeText(2, 1, 7, []int{143})), "\x00\x01a\x00\x00\x00\x90", filled(inodeText(1, 1, 0, nil))}
	for i, s := range want {
		if row[i].S[:len(s)] != s {
			t.Errorf("in sector %d: %.20q, want %.20q", row[i].Sector, row[i].S, s)
		}
	}
	r, row, m := p.d.do(t, statfs())
	if !equal(r, api.Reply{Free: 68}) || len(row) != 0 || !slices.Equal(m, []int{1, 1, 1, 1}) {
		t.Errorf("OpStatfs: %s, %v, %v", short(r), places(row), m)
	}
}

// P19.2: calls that only ask, and calls that tell an error, change nothing; the zones that were read are to be shared.
func TestOnlyAsk(t *testing.T) {
	p := on(t, roomy, append(slices.Clone(base), create("/a"), rename("/a", "/b"), link("/b", "/d/e/q"), rename("/d", "/z"), rename("/z/e", "/a"), write("/t", 0, "x"))...)
	// Things stay where they were made: b's is of zone 1, what was d's is of zone 0, with all that is in it.
	for _, c := range []struct {
		call api.Call
		want api.Errno
		m    []int
	}{
		{api.Call{Op: api.OpSync}, api.OK, []int{0, 0, 0, 0}},
		{statfs(), api.OK, []int{1, 1, 1, 1}},
		{readdir("/"), api.OK, []int{1, 1, 1, 1}},
		{stat("/"), api.OK, []int{1, 1, 1, 1}},
		{read("/", 0, 1), api.ErrDir, []int{0, 0, 0, 0}},
		{write("/", 0, "x"), api.ErrDir, []int{0, 0, 0, 0}},
		{stat("/b"), api.OK, []int{0, 1, 1, 0}},
		{read("/b", 0, 1), api.OK, []int{0, 1, 1, 0}},
		{stat("/c"), api.ErrNone, []int{0, 0, 0, 1}},
		{stat("/b/x"), api.ErrNotDir, []int{0, 1, 1, 0}},
		{readdir("/z"), api.OK, []int{1, 0, 1, 0}},
		{readdir("/a"), api.OK, []int{1, 1, 0, 0}},
		{stat("/a/q"), api.OK, []int{1, 1, 0, 0}},
		{read("/f", 0, 9), api.OK, []int{0, 0, 1, 0}},
		{create("/b"), api.ErrExist, []int{0, 0, 1, 0}},
		{create("/a/q"), api.ErrExist, []int{1, 1, 0, 0}},
		{link("/b", "/t"), api.ErrExist, []int{1, 1, 1, 0}},
		{rename("/b", "/o"), api.ErrExist, []int{0, 1, 1, 1}},
		{unlink("/a"), api.ErrEmpty, []int{1, 1, 0, 0}},
		{rename("/a", "/a/x"), api.ErrArg, []int{1, 1, 0, 0}},
		{link("/a", "/x"), api.ErrDir, []int{1, 1, 0, 0}},
		{truncate("/a", 3), api.ErrDir, []int{1, 1, 0, 0}},
		{readdir("/b"), api.ErrNotDir, []int{0, 1, 1, 0}},
		{truncate("/b", 7000), api.ErrSize, []int{0, 0, 0, 0}},
		{create("/"), api.ErrArg, []int{0, 0, 0, 0}},
		{unlink("b"), api.ErrArg, []int{0, 0, 0, 0}},
	} {
		r, row, m := p.d.do(t, c.call)
		if r.Err != c.want || len(row) != 0 || !slices.Equal(m, c.m) {
			t.Errorf("%s: %v, %d changes, modes %v, want %v, %v", show(c.call), r.Err, len(row), m, c.want, c.m)
		}
	}
}

// P19.2: zones in which something comes to lie are to be had alone, others that were read shared.
func TestAlone(t *testing.T) {
	p := on(t, roomy, append(slices.Clone(base), create("/a"), rename("/a", "/b"), mkdir("/c"), rename("/c", "/e"))...)
	for _, c := range []struct {
		call api.Call
		m    []int
	}{
		{create("/x"), []int{2, 0, 0, 0}},
		{mkdir("/y"), []int{0, 2, 0, 0}},
		{create("/e/x"), []int{0, 1, 0, 2}},
		{link("/b", "/x"), []int{2, 2, 1, 0}},
		{link("/b", "/o/x"), []int{0, 2, 1, 2}},
		{unlink("/b"), []int{0, 2, 2, 0}},
		{unlink("/f"), []int{0, 0, 2, 0}},
		{unlink("/d/e/j"), []int{2, 0, 2, 0}},
		{unlink("/e"), []int{0, 2, 0, 2}},
		{rename("/b", "/j"), []int{0, 1, 2, 0}},
		{rename("/b", "/c"), []int{0, 1, 2, 2}},
		{rename("/b", "/e/c"), []int{0, 1, 2, 2}},
		{rename("/d/g", "/d/G"), []int{2, 0, 0, 0}},
		{rename("/d/g", "/d/e/G"), []int{2, 0, 0, 0}},
		{write("/b", 0, "x"), []int{0, 2, 1, 0}},
		{write("/f", 0, "x"), []int{0, 0, 2, 0}},
		{truncate("/d/g", 3), []int{2, 0, 0, 0}},
	} {
		r, row, m := p.d.do(t, c.call)
		if r.Err != api.OK || len(row) == 0 || !slices.Equal(m, c.m) {
			t.Errorf("%s: %v, %d changes, modes %v, want %v", show(c.call), r.Err, len(row), m, c.m)
		}
	}
}

// P19.2: what a call writes is among its changes also if the same lay there: the file, and the sectors of the bytes that it writes.
func TestSameBytes(t *testing.T) {
	p := on(t, roomy, create("/a"), write("/a", 0, mixed(1000)))
	o := p.w.tops[1].names["a"]
	for _, c := range []struct {
		call api.Call
		want []int
	}{
		{write("/a", 0, mixed(1000)), []int{o.at, o.data[0], o.data[1]}},
		{write("/a", 3, mixed(1000)[3:4]), []int{o.at, o.data[0]}},
		{write("/a", 600, mixed(1000)[600:]), []int{o.at, o.data[1]}},
		{write("/a", 0, ""), []int{o.at}},
		{write("/a", 1000, ""), []int{o.at}},
		{truncate("/a", 1000), []int{o.at}},
		{write("/a", 1001, ""), []int{o.at, o.data[1]}},
		{truncate("/a", 1024), []int{o.at, o.data[1]}},
		{truncate("/a", 999), []int{o.at, o.data[1]}},
	} {
		if _, row, _ := p.d.do(t, c.call); !slices.Equal(places(row), slices.Sorted(slices.Values(c.want))) {
			t.Errorf("%s: changes %v, want %v", show(c.call), places(row), c.want)
		}
	}
}

// fill takes sectors of a zone, till so many are free there.
func fillZone(t *testing.T, p *trio, zone, free int) {
	t.Helper()
	for i := 0; p.w.freeIn(zone) > free; i++ {
		n := name(3, i)
		if sumOf(n) != zone {
			continue
		}
		more := p.w.freeIn(zone) - free
		p.do(t, create("/"+n))
		if r := p.w.freeIn(zone) - free; r > 0 && more > 20 {
			p.do(t, write("/"+n, 0, mixed(512*min(r, 12))))
		}
	}
}

// tookFrom is of how many sectors of each zone a call has them taken; asked is of which zones the map was asked for.
func tookFrom(t *testing.T, p *trio, c api.Call) (took, asked []int) {
	t.Helper()
	was := []int{p.w.freeIn(0), p.w.freeIn(1), p.w.freeIn(2), p.w.freeIn(3)}
	if r := p.do(t, c); r.Err != api.OK && r.Err != api.ErrFull {
		t.Fatalf("%s: %v", show(c), r.Err)
	}
	for zone := range 4 {
		took = append(took, was[zone]-p.w.freeIn(zone))
		asked = append(asked, 0)
		if p.d.asked[begin(p.d.l, zone)] {
			asked[zone] = 1
		}
	}
	return took, asked
}

// P19.3: sectors are taken from the zone of the list, or of the thing, on; of the maps only as many are read as there must be.
func TestWhichZone(t *testing.T) {
	for zone := range 4 {
		for _, full := range []int{0, 1, 2, 3} {
			p := on(t, small(30))
			for i := range 4 {
				p.do(t, create("/"+string(rune('`'+4+i)))) // d, e, f, g: of zones 0, 1, 2, 3
			}
			for i := range full {
				fillZone(t, p, (zone+i)%4, 0)
			}
			want, maps := make([]int, 4), make([]int, 4)
			for i := range full + 1 {
				maps[(zone+i)%4] = 1
			}
			want[(zone+full)%4] = 1
			took, asked := tookFrom(t, p, create("/"+string(rune('`'+8+zone))))
			if !slices.Equal(took, want) || !slices.Equal(asked, maps) {
				t.Errorf("a new file, %d full from %d on: took %v, asked for %v", full, zone, took, asked)
			}
			took, asked = tookFrom(t, p, write("/"+string(rune('`'+4+zone)), 0, "x"))
			if !slices.Equal(took, want) || !slices.Equal(asked, maps) {
				t.Errorf("bytes, %d full from %d on: took %v, asked for %v", full, zone, took, asked)
			}
			p.whole(t, "behind these")
		}
	}
}

// P19.3: a few sectors of each of some zones are taken, as there are.
func TestSomeOfEach(t *testing.T) {
	p := on(t, small(30), create("/a"))
	for zone, free := range []int{2, 3, 0, 1} {
		fillZone(t, p, zone, free)
	}
	for _, c := range []struct {
		n           int
		took, asked []int
	}{
		{512 * 3, []int{0, 3, 0, 0}, []int{0, 1, 0, 0}},
		{512 * 4, []int{0, 3, 0, 1}, []int{0, 1, 1, 1}},
		{512*4 + 1, []int{1, 3, 0, 1}, []int{1, 1, 1, 1}},
		{512 * 6, []int{2, 3, 0, 1}, []int{1, 1, 1, 1}},
		{512*6 + 1, []int{0, 0, 0, 0}, []int{1, 1, 1, 1}},
	} {
		took, asked := tookFrom(t, p, truncate("/a", c.n))
		if !slices.Equal(took, c.took) || !slices.Equal(asked, c.asked) {
			t.Errorf("%d bytes: took %v, asked for %v", c.n, took, asked)
		}
		p.whole(t, "taken")
		p.do(t, truncate("/a", 0))
		p.whole(t, "given back")
	}
}

// P19.3: a longer list's sectors come ahead of a new thing's, by rising places.
func TestListAhead(t *testing.T) {
	p := on(t, roomy, mkdir("/a"))
	d := p.w.tops[1].names["a"]
	p.do(t, create("/a/x"))
	x := d.names["x"]
	if want := []int{d.at + 1}; !slices.Equal(d.data, want) || x.at != d.at+2 {
		t.Errorf("the list lies in %v, the file in %d", d.data, x.at)
	}
	for i := range 30 {
		p.do(t, mkdir("/a/"+name(30, i)))
	}
	o := d.names[name(30, 14)]
	if len(d.data) != 3 || o.at != d.data[1]+1 {
		t.Errorf("the list lies in %v, the first one behind its first sector in %d", d.data, o.at)
	}
}

// P19.3: things stay in their sectors, and what is made in a moved folder is of the folder's zone.
func TestStays(t *testing.T) {
	p := on(t, roomy, mkdir("/a"), create("/a/x"), rename("/a", "/b"), rename("/b/x", "/c"), create("/b/y"), write("/c", 0, "x"), mkdir("/d"), rename("/b", "/d/b"), create("/d/b/z"))
	b := p.w.tops[0].names["d"].names["b"]
	for what, at := range map[string]int{"the folder": b.at, "x": p.w.tops[3].names["c"].at, "its bytes": p.w.tops[3].names["c"].data[0], "y": b.names["y"].at, "z": b.names["z"].at} {
		if zoneOf(roomy, at) != 1 {
			t.Errorf("%s: in sector %d", what, at)
		}
	}
	p.whole(t, "at the end")
}

// P19.3: what is given back is given back last: a call doesn't take it.
func TestBackLast(t *testing.T) {
	p := on(t, roomy, create("/f"), mkdir("/a"), mkdir("/e")) // both folders of zone 1
	for i := range 14 {
		p.do(t, link("/f", "/e/"+name(30, i))) // 504 bytes: a sector is needed for the next one
	}
	p.do(t, link("/f", "/a/x"))
	a, e := p.w.tops[1].names["a"], p.w.tops[1].names["e"]
	was := a.data[0]
	p.do(t, rename("/a/x", "/e/"+name(30, 14)))
	if len(a.data) != 0 || len(e.data) != 2 || e.data[1] == was || p.w.taken[1][was-begin(roomy, 1)] {
		t.Errorf("one lies in %v, the other one in %v; %d was given back", a.data, e.data, was)
	}
	p.whole(t, "at the end")
	// Also if there is nothing else: it is given back too late.
	q := on(t, small(9), create("/f"), mkdir("/a"), mkdir("/e"))
	for i := range 14 {
		q.do(t, link("/f", "/e/"+name(30, i)))
	}
	q.do(t, link("/f", "/a/x"))
	q.do(t, truncate("/f", 6144))
	q.do(t, create("/q"))
	q.do(t, truncate("/q", 512*min(12, q.x.Free())))
	q.do(t, create("/Q"))
	q.do(t, truncate("/Q", 512*q.x.Free()))
	if q.x.Free() != 0 {
		t.Fatalf("%d are free", q.x.Free())
	}
	if r := q.do(t, rename("/a/x", "/e/"+name(30, 14))); r.Err != api.ErrFull {
		t.Errorf("with nothing free: %v", r.Err)
	}
	if r := q.do(t, rename("/a/x", "/e/y")); r.Err != api.OK { // it has a byte of room
		t.Errorf("in the room that there is: %v", r.Err)
	}
	q.whole(t, "at the end")
}

// P19.3: where all is full nothing is made, and all maps were looked at.
func TestAllFull(t *testing.T) {
	p := on(t, small(12), create("/a"), mkdir("/b"))
	for zone := range 4 {
		fillZone(t, p, zone, 0)
	}
	for _, c := range []api.Call{create("/new"), mkdir("/new"), create("/b/x"), write("/a", 0, "x"), truncate("/a", 1)} {
		took, asked := tookFrom(t, p, c)
		if !slices.Equal(took, make([]int, 4)) || !slices.Equal(asked, []int{1, 1, 1, 1}) {
			t.Errorf("%s: took %v, asked for %v", show(c), took, asked)
		}
		if r := p.do(t, c); r.Err != api.ErrFull {
			t.Errorf("%s: %v", show(c), r.Err)
		}
	}
	// What needs nothing more goes on.
	for _, c := range []api.Call{rename("/a", "/e"), unlink("/b"), stat("/e"), create("/b")} {
		if r := p.do(t, c); r.Err != api.OK {
			t.Errorf("%s: %v", show(c), r.Err)
		}
	}
	p.whole(t, "at the end")
}
