package ops_test

import (
	"slices"
	"strings"
	"testing"

	"lockgate/api"
	"lockgate/journal"
	"lockgate/layout"
	"lockgate/ops"
	"lockgate/pack"
	"lockgate/view"
)

// layouts that may be: of the least and the most sectors and nodes, and some between.
func layouts() []api.Layout {
	var l []api.Layout
	for nodes := 1; nodes <= 8; nodes++ {
		for _, sectors := range []int{2 + 40*nodes + 12, 2 + 40*nodes + 15, 500, 3333, 2 + 40*nodes + 16000, 65535, 65536} {
			l = append(l, sized(sectors, nodes))
		}
	}
	return l
}

// wrong layouts are such as may not be.
func wrongLayouts() []api.Layout {
	r := roomy
	return []api.Layout{
		{}, {Sectors: -1, Nodes: -1, First: -1, Size: -1}, sized(2+40+11, 1), sized(2+320+11, 8), sized(65537, 1), sized(1000, 0), sized(1000, 9), sized(1000, -1),
		{Sectors: r.Sectors, Nodes: r.Nodes, First: r.First + 1, Size: r.Size}, {Sectors: r.Sectors, Nodes: r.Nodes, First: r.First, Size: r.Size - 1}, {Sectors: r.Sectors, Nodes: r.Nodes, First: r.First, Size: r.Size + 1},
		{Sectors: r.Sectors, Nodes: r.Nodes + 1, First: r.First, Size: r.Size}, {Sectors: r.Sectors + 100, Nodes: r.Nodes, First: r.First, Size: r.Size}, {Sectors: 1 << 40, Nodes: 1, First: 42, Size: 4000},
	}
}

// P19.1: what lies on a new disk.
func TestFormat(t *testing.T) {
	for _, l := range layouts() {
		row, e := ops.Format(l)
		if e != api.OK {
			t.Fatalf("%v: %v", l, e)
		}
		text, _ := layout.Bytes(l)
		members, _ := view.Bytes(view.New(l.Nodes))
		want := []api.Change{{Sector: 0, S: filled(text)}, {Sector: 1, S: filled(members)}}
		for node := range l.Nodes {
			want = append(want, api.Change{Sector: 2 + 40*node, S: journal.Head(0)})
		}
		taken := make([]bool, l.Size)
		taken[0], taken[1] = true, true
		for zone := range 4 {
			want = append(want, api.Change{Sector: begin(l, zone), S: filled(mapText(taken))}, api.Change{Sector: begin(l, zone) + 1, S: filled(inodeText(2, 1, 0, nil))})
		}
		if !slices.Equal(row, want) {
			t.Errorf("%v: %d changes, want %d", l, len(row), len(want))
		}
	}
}

// P19.1: such a disk has no journal with something in it, nobody in its view, and nothing in its tree.
func TestNewDisk(t *testing.T) {
	for _, l := range layouts() {
		p := on(t, l)
		p.whole(t, "new")
		text, _ := pack.Open(p.d.s[0])
		if is, e := layout.Read(text); e != api.OK || is != l {
			t.Errorf("%v: of layout %v, %v", l, is, e)
		}
		text, _ = pack.Open(p.d.s[1])
		if v, e := view.Read(text); e != api.OK || v.Nodes != l.Nodes || len(v.Members) != 0 || v.Epoch != view.New(l.Nodes).Epoch {
			t.Errorf("%v: the view is %v, %v", l, v, e)
		}
		for _, c := range []api.Call{readdir("/"), stat("/"), statfs(), create("/a"), mkdir("/b"), create("/b/c"), write("/a", 0, "x")} {
			p.do(t, c)
		}
		p.whole(t, "behind some calls")
	}
}

// P19.1 and P19.2: of a layout that may not be ErrArg is told, and nothing beside it; nothing is asked for.
func TestWrongLayouts(t *testing.T) {
	never := func(at int) string { t.Errorf("sector %d was asked for", at); return "" }
	for _, l := range wrongLayouts() {
		if row, e := ops.Format(l); len(row) != 0 || e != api.ErrArg {
			t.Errorf("%v: Format tells %d changes, %v", l, len(row), e)
		}
		for op := 0; op <= 13; op++ {
			r, row, m := ops.Do(l, never, api.Call{Op: op, Path: "/a", To: "/b"})
			if !equal(r, api.Reply{Err: api.ErrArg}) || len(row) != 0 || !slices.Equal(m, make([]int, 4)) {
				t.Errorf("%v: call %d tells %s, %d changes, %v", l, op, short(r), len(row), m)
			}
		}
	}
}

// R1: of no closure to read with ErrArg is told.
func TestNoRead(t *testing.T) {
	for op := 0; op <= 13; op++ {
		r, row, m := ops.Do(roomy, nil, api.Call{Op: op, Path: "/a", To: "/b"})
		if !equal(r, api.Reply{Err: api.ErrArg}) || len(row) != 0 || !slices.Equal(m, make([]int, 4)) {
			t.Errorf("call %d tells %s, %d changes, %v", op, short(r), len(row), m)
		}
	}
}

// R3: what was told is its owner's.
func TestMemory(t *testing.T) {
	row, _ := ops.Format(roomy)
	again, _ := ops.Format(roomy)
	for i := range row {
		row[i] = api.Change{}
	}
	if third, _ := ops.Format(roomy); !slices.Equal(again, third) {
		t.Error("Format tells something else now")
	}
	p := on(t, roomy, base...)
	for _, c := range []api.Call{create("/n"), write("/f", 3, mixed(2000)), readdir("/"), readdir("/d"), rename("/d", "/e"), statfs()} {
		r, row, m := p.d.do(t, c)
		names, was, modes := slices.Clone(r.Names), slices.Clone(row), slices.Clone(m)
		r2, row2, m2 := p.d.do(t, c)
		for _, l := range [][]string{r2.Names[:cap(r2.Names)]} {
			for i := range l {
				l[i] = "spoiled"
			}
		}
		for i := range row2 {
			row2[i] = api.Change{}
		}
		for i := range m2 {
			m2[i] = 7
		}
		r3, row3, m3 := p.d.do(t, c)
		for _, is := range []bool{slices.Equal(r.Names, names), slices.Equal(row, was), slices.Equal(m, modes), equal(r, r3), slices.Equal(row, row3), slices.Equal(m, m3)} {
			if !is {
				t.Errorf("%s: something is another now", show(c))
			}
		}
	}
	p.whole(t, "behind all")
}

// R5: long arguments are answered.
func TestLong(t *testing.T) {
	p := on(t, roomy, base...)
	var l []api.Call
	for _, s := range []string{strings.Repeat("/a", 1<<20), strings.Repeat("a", 1<<20), "/" + strings.Repeat("a", 1<<20), strings.Repeat("/", 1<<20)} {
		for op := 1; op <= 12; op++ {
			l = append(l, api.Call{Op: op, Path: s, To: s, Data: s}, api.Call{Op: op, Path: "/f", To: s, Data: s})
		}
	}
	p.each(t, l)
}
