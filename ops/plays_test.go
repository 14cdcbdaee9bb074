package ops_test

import (
	"strings"
	"testing"

	"lockgate/api"
)

// path is a drawn one; most are of few names, so that they meet each other.
func (d *draws) path() string {
	if d.below(40) == 0 {
		return some[d.below(len(some))]
	}
	p := ""
	for range 1 + d.below(4)*d.below(2) + d.below(2) {
		p += "/" + pick(d, "a", "b", "c", "d", "long", name(30, 1), name(30, 2), name(29, d.below(40)))
	}
	return p
}

// meets is a path of the tree, or one in a folder there, or a drawn one.
func (d *draws) meets(lines []api.Line) string {
	if len(lines) == 0 || d.below(4) == 0 {
		return d.path()
	}
	p := lines[d.below(len(lines))].Path
	if d.below(3) == 0 {
		p += "/" + pick(d, "a", "b", "c", "e", name(30, 1), name(30, d.below(40)))
	}
	return p
}

// call is a drawn one.
func (d *draws) call(lines []api.Line) api.Call {
	c := api.Call{Op: 1 + d.below(12), Path: d.meets(lines)}
	if c.Op == api.OpLink || c.Op == api.OpRename || d.below(20) == 0 {
		c.To = d.meets(lines)
	}
	switch c.Op {
	case api.OpCreate, api.OpMkdir:
		if d.below(3) > 0 {
			c.Path = d.path()
		}
	case api.OpRead, api.OpWrite, api.OpTruncate:
		c.At = pick(d, 0, 0, d.below(20), d.below(1100), edges[d.below(len(edges))], d.below(7000)-1)
		c.N = pick(d, 0, d.below(20), d.below(1100), edges[d.below(len(edges))], d.below(7000)-1)
		c.Data = strings.Repeat(pick(d, "x", "y", "\x00"), pick(d, 0, d.below(20), d.below(1100), d.below(6200)))
	}
	return c
}

// P19.2 to P19.4: drawn plays of calls, on disks with little room and with much: told is what the tree tells, and what lies there is what should, sector by sector; asked for is what must be, and no more.
func TestPlays(t *testing.T) {
	d := draws(19)
	errors := map[api.Errno]int{}
	for range 150 {
		p := on(t, pick(&d, small(1), small(2), small(3), small(6), small(15), roomy))
		for i := range 120 {
			errors[p.do(t, d.call(p.x.All())).Err]++
			if i%20 == 0 {
				p.whole(t, "in between")
			}
		}
		p.whole(t, "at the end")
	}
	for _, e := range []api.Errno{api.OK, api.ErrArg, api.ErrSize, api.ErrNone, api.ErrFull, api.ErrExist, api.ErrDir, api.ErrNotDir, api.ErrEmpty} {
		if errors[e] < 50 {
			t.Errorf("%v was told %d times", e, errors[e])
		}
	}
}

// P19.2: plays in which lists get long, so that they pass sectors, and come to an end.
func TestLongPlays(t *testing.T) {
	d := draws(20)
	for range 12 {
		p := on(t, pick(&d, small(10), roomy), mkdir("/d"), mkdir("/e"), create("/f"))
		for i := range 400 {
			in := pick(&d, "", "/d", "/e")
			n := name(30, d.below(250))
			c := pick(&d, create(in+"/"+n), create(in+"/"+n), link("/f", in+"/"+n), rename(pick(&d, "", "/d", "/e")+"/"+name(30, d.below(250)), in+"/"+n), mkdir(in+"/"+n))
			if i > 250 {
				c = pick(&d, unlink(in+"/"+n), unlink(in+"/"+n), rename(in+"/"+n, pick(&d, "", "/d", "/e")+"/s"+name(20, d.below(250))))
			}
			p.do(t, c)
		}
		p.whole(t, "at the end")
	}
}
