package check_test

import (
	"fmt"
	"slices"
	"strings"
	"testing"

	"lockgate/api"
	"lockgate/check"
)

// layouts that may be: of the least and the most sectors and nodes, and some between.
func layouts() []api.Layout {
	var l []api.Layout
	for nodes := 1; nodes <= 8; nodes++ {
		for _, sectors := range []int{2 + 40*nodes + 12, 2 + 40*nodes + 15, 500, 2 + 40*nodes + 16000, 65536} {
			l = append(l, sized(sectors, nodes))
		}
	}
	return l
}

// P20.1, P20.2 and P20.3: a new disk is right, has no lines, and none of its sectors is taken.
func TestNewDisks(t *testing.T) {
	for _, l := range layouts() {
		d := newShelf(t, l)
		if lines, e := d.lines(t); len(lines) != 0 || e != api.OK || d.taken(t) != 0 {
			t.Errorf("%v: %d lines, %v, %d taken", l, len(lines), e, d.taken(t))
		}
		same(t, "a new disk", d)
		for i := range d.s {
			d.s[i] = strings.Repeat("\x00", 512)
		}
		if lines, e := d.lines(t); len(lines) != 0 || e != api.ErrBad || d.taken(t) != -1 {
			t.Errorf("%v of bytes 0: %d lines, %v, %d taken", l, len(lines), e, d.taken(t))
		}
	}
}

// P20.1 and P20.2: of layouts that may not be ErrArg and -1 are told, and nothing is asked for; so it is of no closure to read with.
func TestWrongLayouts(t *testing.T) {
	r := roomy
	never := func(at int) string { t.Errorf("sector %d was asked for", at); return "" }
	for _, l := range []api.Layout{
		{}, {Sectors: -1, Nodes: -1, First: -1, Size: -1}, sized(2+40+11, 1), sized(2+320+11, 8), sized(65537, 1), sized(1000, 0), sized(1000, 9), sized(1000, -1),
		{Sectors: r.Sectors, Nodes: r.Nodes, First: r.First + 1, Size: r.Size}, {Sectors: r.Sectors, Nodes: r.Nodes, First: r.First, Size: r.Size - 1}, {Sectors: r.Sectors, Nodes: r.Nodes, First: r.First, Size: r.Size + 1},
		{Sectors: r.Sectors, Nodes: r.Nodes + 1, First: r.First, Size: r.Size}, {Sectors: r.Sectors + 100, Nodes: r.Nodes, First: r.First, Size: r.Size}, {Sectors: 1 << 40, Nodes: 1, First: 42, Size: 4000},
	} {
		if lines, e := check.Lines(l, never); len(lines) != 0 || e != api.ErrArg || check.Taken(l, never) != -1 {
			t.Errorf("%v: %d lines, %v, %d taken", l, len(lines), e, check.Taken(l, never))
		}
	}
	if lines, e := check.Lines(r, nil); len(lines) != 0 || e != api.ErrArg || check.Taken(r, nil) != -1 {
		t.Errorf("without a closure: %d lines, %v, %d taken", len(lines), e, check.Taken(r, nil))
	}
}

// base makes a tree with something of each kind.
var base = []api.Call{
	create("/f"), write("/f", 0, "some bytes"), mkdir("/d"), create("/d/g"), write("/d/g", 600, "x"), mkdir("/d/e"), create("/d/e/h"), link("/f", "/d/e/j"), mkdir("/o"), create("/t"), write("/t", 0, strings.Repeat("t", 6144)),
	create("/a"), create("/e"), mkdir("/i"), mkdir("/i/m"), create("/i/q"), write("/i/q", 0, "q"), link("/i/q", "/d/Q"), rename("/a", "/b"), rename("/i/m", "/o/m"),
}

// P20.1: the lines of a right disk are those of the tree: by rising paths, files by their first ones.
func TestLines(t *testing.T) {
	d, x := on(t, roomy, base...)
	l, e := d.lines(t)
	if e != api.OK || !slices.Equal(l, x.All()) {
		t.Errorf("told %v, %.100v, want %.100v", e, l, x.All())
	}
	want := "[/b 1 1 /d 2 0 /d/Q 1 2 /d/e 2 0 /d/e/h 1 3 /d/e/j 1 4 /d/g 1 5 /e 1 6 /f 1 4 /i 2 0 /i/q 1 2 /o 2 0 /o/m 2 0 /t 1 7]"
	var got []string
	for _, line := range l {
		got = append(got, fmt.Sprint(line.Path, " ", line.Kind, " ", line.ID))
	}
	if fmt.Sprint(got) != want {
		t.Errorf("told %v, want %s", got, want)
	}
	if n := d.taken(t); n != 4*98-x.Free() {
		t.Errorf("%d are taken, %d free", n, x.Free())
	}
	for i := range l { // what is told is its owner's
		l[i] = api.Line{}
	}
	if again, _ := d.lines(t); !slices.Equal(again, x.All()) {
		t.Error("another time something else is told")
	}
}

// P20.1: paths are put in order as texts, not folder by folder.
func TestOrder(t *testing.T) {
	d, x := on(t, roomy, mkdir("/a"), create("/a/x"), create("/a-"), create("/a.b"), create("/a0"), mkdir("/a_"), create("/a_/z"), link("/a_/z", "/a/-"), create("/B"))
	if l, e := d.lines(t); e != api.OK || !slices.Equal(l, x.All()) || l[0].Path != "/B" || l[1].Path != "/a" || l[2].Path != "/a-" || l[4].Path != "/a/-" {
		t.Errorf("told %v, %v, want %v", e, l, x.All())
	}
}

// P20.1: folders lie as deep as they do, also deeper than a path may lead.
func TestDeep(t *testing.T) {
	d, x := on(t, roomy, mkdir("/x"), create("/x/f"))
	for i := range 30 {
		top := fmt.Sprint("/n", i)
		last := fmt.Sprint("/n", i-1)
		if i == 0 {
			last = "/x"
		}
		for _, c := range []api.Call{mkdir(top), rename(last, top+"/d")} {
			if r, e := d.do(c), x.Do(c).Err; r.Err != api.OK || e != api.OK {
				t.Fatalf("%s: %v, %v", show(c), r.Err, e)
			}
		}
	}
	if l, e := d.lines(t); e != api.OK || !slices.Equal(l, x.All()) || len(l) != 32 {
		t.Errorf("told %v, %d lines", e, len(l))
	}
}

// P20.1: the most names of a file, and the most bytes of a file and of a list.
func TestMost(t *testing.T) {
	calls := []api.Call{create("/f"), write("/f", 0, strings.Repeat("f", 6144)), mkdir("/d"), mkdir("/e"), mkdir("/g"), mkdir("/h"), mkdir("/i"), mkdir("/j")}
	for i := range 999 {
		calls = append(calls, link("/f", fmt.Sprintf("%s/%0*d", []string{"/d", "/e", "/g", "/h", "/i", "/j"}[i/170], 30, i)))
	}
	d, x := on(t, roomy, append(calls, create("/d/"+strings.Repeat("x", 18)))...)
	if l, e := d.lines(t); e != api.OK || !slices.Equal(l, x.All()) || len(l) != 1000+7 {
		t.Errorf("told %v, %d lines", e, len(l))
	}
	same(t, "the most", d)
}

// P20.3: of a right disk each call makes a right one, with the tree's lines.
func TestPlays(t *testing.T) {
	d := draws(31)
	for range 60 {
		disk, x := on(t, pick(&d, sized(2+40+12, 1), sized(2+40+20, 1), sized(2+40+60, 1), roomy))
		for range 80 {
			c := d.call(x.All())
			if r, want := disk.do(c), x.Do(c); r.Err != want.Err {
				t.Fatalf("%s: told %v, want %v", show(c), r.Err, want.Err)
			}
			l, e := disk.lines(t)
			if e != api.OK || !slices.Equal(l, x.All()) {
				t.Fatalf("%s: %v, lines %.100v, want %.100v", show(c), e, l, x.All())
			}
			if n := disk.taken(t); n != 4*(disk.l.Size-2)-x.Free() {
				t.Fatalf("%s: %d are taken, %d free", show(c), n, x.Free())
			}
		}
		same(t, "behind a play", disk)
	}
}

// P20.1 and P20.3: what lies behind the last bytes of files and lists doesn't matter, and calls go on as ever.
func TestBehindBytes(t *testing.T) {
	d := draws(32)
	for range 40 {
		disk, x := on(t, roomy, base...)
		for range 40 {
			v := reached(disk)
			for _, n := range v.nodes {
				if behind := n.size % 512; behind > 0 {
					last := n.data[len(n.data)-1]
					disk.s[last] = disk.s[last][:behind] + strings.Repeat("j", 512-behind)
				}
			}
			if l, e := disk.lines(t); e != api.OK || !slices.Equal(l, x.All()) {
				t.Fatalf("%v, lines %.100v, want %.100v", e, l, x.All())
			}
			c := d.call(x.All())
			if r, want := disk.do(c), x.Do(c); r.Err != want.Err || r.Data != want.Data {
				t.Fatalf("%s: told %v, want %v", show(c), r.Err, want.Err)
			}
		}
	}
}

// path is a drawn one of a few names, or of the tree.
func (d *draws) path(lines []api.Line) string {
	p := ""
	if len(lines) > 0 && d.below(4) > 0 {
		p = lines[d.below(len(lines))].Path
	}
	if p == "" || d.below(2) == 0 {
		p += "/" + pick(d, "a", "b", "c", "d", "a-", fmt.Sprintf("%030d", d.below(50)))
	}
	return p
}

// call is a drawn one.
func (d *draws) call(lines []api.Line) api.Call {
	c := api.Call{Op: 1 + d.below(8), Path: d.path(lines), To: d.path(lines)}
	if d.below(3) == 0 {
		c.Op = 1 + d.below(3)
	}
	c.At, c.N = pick(d, 0, d.below(1500)), pick(d, 0, d.below(6145))
	c.Data = strings.Repeat("z", pick(d, 0, d.below(20), d.below(1100), d.below(6200)))
	return c
}

// R3: nothing is kept: a disk that is another one by now is told so.
func TestNothingKept(t *testing.T) {
	d, _ := on(t, roomy, base...)
	at := begin(roomy, 1) + 1
	old := d.s[at]
	for range 3 {
		d.s[at] = strings.Repeat("\x00", 512)
		if _, e := d.lines(t); e != api.ErrBad {
			t.Errorf("a broken one: %v", e)
		}
		d.s[at] = old
		if _, e := d.lines(t); e != api.OK {
			t.Errorf("a right one: %v", e)
		}
	}
}
