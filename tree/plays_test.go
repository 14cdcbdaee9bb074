package tree_test

import (
	"strings"
	"testing"

	"lockgate/api"
)

// path is a drawn one; most are of few names, so that they meet each other.
func (d *draws) path() string {
	if d.below(40) == 0 {
		return some[d.below(len(some))]
	}
	p := ""
	for range 1 + d.below(4)*d.below(2) + d.below(2) {
		p += "/" + pick(d, "a", "b", "c", "d", "long", other(30))
	}
	return p
}

// meets is a path of the model, or one in a folder there, or a drawn one.
func (d *draws) meets(m *model) string {
	lines := m.all()
	if len(lines) == 0 || d.below(4) == 0 {
		return d.path()
	}
	p := lines[d.below(len(lines))].Path
	if d.below(3) == 0 {
		p += "/" + pick(d, "a", "b", "c", "e", other(30))
	}
	return p
}

// call is a drawn one.
func (d *draws) call(m *model) api.Call {
	c := api.Call{Op: 1 + d.below(12), Path: d.meets(m)}
	if c.Op == api.OpLink || c.Op == api.OpRename || d.below(20) == 0 {
		c.To = d.meets(m)
	}
	switch c.Op {
	case api.OpCreate, api.OpMkdir:
		if d.below(3) > 0 {
			c.Path = d.path()
		}
	case api.OpRead, api.OpWrite, api.OpTruncate:
		c.At = pick(d, 0, 0, d.below(20), d.below(1100), edges[d.below(len(edges))], d.below(7000)-1)
		c.N = pick(d, 0, d.below(20), d.below(1100), edges[d.below(len(edges))], d.below(7000)-1)
		c.Data = strings.Repeat(pick(d, "x", "y", "z"), pick(d, 0, d.below(20), d.below(1100), d.below(6200)))
	}
	return c
}

// P16.1 to P16.6: drawn plays of calls, in trees of little room and of much, against the chapter's words done over in another way; also of copies that go ways of their own.
func TestPlays(t *testing.T) {
	d := draws(16)
	errors := map[api.Errno]int{}
	for play := range 400 {
		room := pick(&d, 3, 8, 15, 25, 40, 200)
		x, m := twins(t, room)
		for range 120 {
			c := d.call(m)
			was := m.all()
			e := both(t, x, m, c).Err
			errors[e]++
			if e == api.OK || d.below(10) == 0 {
				same(t, show(c), x, m)
			} else if len(was) != len(m.all()) {
				t.Fatal("the model did something")
			}
			if d.below(30) == 0 { // go on with a copy, or leave one that goes another way
				y, n := x.Copy(), m.copied()
				for range d.below(5) {
					both(t, y, n, d.call(n))
				}
				same(t, "the other one", y, n)
				same(t, "this one", x, m)
				if play%2 == 0 {
					x, m = y, n
				}
			}
		}
		same(t, "at the end", x, m)
	}
	for _, e := range []api.Errno{api.OK, api.ErrArg, api.ErrSize, api.ErrNone, api.ErrFull, api.ErrExist, api.ErrDir, api.ErrNotDir, api.ErrEmpty} {
		if errors[e] < 100 {
			t.Errorf("%v was told %d times", e, errors[e])
		}
	}
}

// R5: long arguments are answered.
func TestLong(t *testing.T) {
	x, m := twins(t, baseNeeds+20, base...)
	for _, s := range []string{strings.Repeat("/a", 1<<20), strings.Repeat("a", 1<<20), "/" + strings.Repeat("a", 1<<20), strings.Repeat("/", 1<<20), "/f" + strings.Repeat("/", 1<<20)} {
		for op := 1; op <= 12; op++ {
			c := api.Call{Op: op, Path: s, To: s, Data: s}
			both(t, x, m, c)
			c.Path = "/f"
			if op != api.OpUnlink {
				both(t, x, m, c)
			}
		}
	}
	same(t, "behind long ones", x, m)
}
