package ops_test

import (
	"math"
	"strings"
	"testing"

	"lockgate/api"
)

// edges are places at which something ends or begins.
var edges = []int{0, 1, 2, 510, 511, 512, 513, 1023, 1024, 1025, 5631, 5632, 5633, 6142, 6143, 6144}

// far are numbers far off.
var far = []int{math.MinInt, -1 << 40, -1 << 32, 1<<32 + 1, 1 << 40, math.MaxInt}

// some are paths: none, the root's, such as lead to things of base, through files, and to nothing.
var some = []string{
	"", "/", "a", "a/b", "//", "/a/", "/d//g", "/.", "/..", "/d/..", "/./d", "/a b", "/a\x00", "/" + name(31, 0), "/1/2/3/4/5/6/7/8/9",
	"/f", "/d", "/d/g", "/d/e", "/d/e/h", "/o", "/t", "/f/x", "/f/x/y", "/d/g/x", "/d/g/x/y", "/no", "/no/x", "/d/no", "/d/no/x", "/d/e/no", "/o/no", "/d/e/no/x",
	"/b", "/" + name(30, 1), "/d/" + name(30, 2), "/1/2/3/4/5/6/7/8", "/d/e/h/1/2/3/4/5", "/D", "/d/G",
}

// few are those of them that differ in kind.
var few = []string{"", "/", "/a/", "/f", "/d", "/d/g", "/d/e/h", "/o", "/f/x", "/no", "/d/no/x", "/d/no"}

// base makes a tree with something of each kind.
var base = []api.Call{
	create("/f"), write("/f", 0, "some bytes"), mkdir("/d"), create("/d/g"), write("/d/g", 600, "x"), mkdir("/d/e"), create("/d/e/h"), link("/f", "/d/e/j"), mkdir("/o"), create("/t"), write("/t", 0, mixed(6144)),
}

// baseNeeds is how many sectors base needs.
const baseNeeds = 1 + 1 + 1 + 2 + 1 + 1 + 1 + 1 + 13 + 2 + 3

// grounds are base's tree, with much room, and with none, one sector and two.
func grounds(t *testing.T) []*trio {
	t.Helper()
	l := []*trio{on(t, roomy, base...)}
	for free := range 3 {
		p := on(t, small(8), base...)
		for i := 0; p.x.Free() > free; i++ {
			if n := p.x.Free() - free - 1; n > 0 && i%2 == 1 {
				p.do(t, write("/"+name(9, i-1), 0, mixed(min(n+1, 12)*512)))
			} else {
				p.do(t, create("/"+name(9, i)))
			}
		}
		l = append(l, p)
	}
	return l
}

// P19.2: each call of each path is told as the tree tells it, and does what the tree has then.
func TestEachPath(t *testing.T) {
	for _, p := range grounds(t) {
		var l []api.Call
		for _, op := range append([]int{-1, 0, 1, 2, 3, 4, 5, 6, 7, 8, 9, 10, 11, 12, 13, 14}, far...) {
			for _, path := range some {
				l = append(l, api.Call{Op: op, Path: path}, api.Call{Op: op, Path: path, To: "/d/n", At: 3, N: 7, Data: "data"})
			}
		}
		p.each(t, l)
	}
}

// P19.2: OpLink and OpRename of each pair of paths.
func TestEachPair(t *testing.T) {
	for _, p := range grounds(t)[:2] {
		var l []api.Call
		for _, path := range some {
			for _, to := range some {
				l = append(l, link(path, to), rename(path, to))
			}
		}
		p.each(t, l)
	}
}

// P19.2: fields of a call that it doesn't ask for don't matter.
func TestOtherFields(t *testing.T) {
	p := on(t, roomy, base...)
	var l []api.Call
	for op := 1; op <= 12; op++ {
		for _, path := range few {
			for _, to := range few {
				l = append(l, api.Call{Op: op, Path: path, To: to, At: 1, N: 2, Data: "x"})
			}
			l = append(l, api.Call{Op: op, Path: path, To: "/n", At: -1, N: 3}, api.Call{Op: op, Path: path, To: "/n", At: 3, N: -1}, api.Call{Op: op, Path: path, To: "/n", At: 7000, N: 3},
				api.Call{Op: op, Path: path, To: "/n", At: 3, N: 7000}, api.Call{Op: op, Path: path, To: "/n", Data: strings.Repeat("x", 7000)})
		}
	}
	p.each(t, l)
}

// P19.2: OpRead, OpWrite and OpTruncate with numbers of all kinds.
func TestEachNumber(t *testing.T) {
	numbers := append([]int{-1, 0, 1, 9, 10, 11, 511, 512, 513, 600, 601, 602, 6143, 6144, 6145}, far...)
	for _, p := range grounds(t)[:2] {
		for _, path := range few {
			var l []api.Call
			for _, a := range numbers {
				for _, b := range numbers {
					l = append(l, read(path, a, b))
				}
				for _, n := range []int{0, 1, 512, 6143, 6144, 6145} {
					l = append(l, write(path, a, strings.Repeat("w", n)), write(path, 6144-n, strings.Repeat("v", n)), write(path, 6145-n, strings.Repeat("u", n)))
				}
				l = append(l, truncate(path, a))
			}
			p.each(t, l)
		}
	}
}

// P19.2: bytes are written, cut off and put wherever sectors begin and end; those that are cut off don't come again.
func TestBytes(t *testing.T) {
	for _, size := range edges {
		for _, at := range edges {
			p := on(t, roomy, create("/f"), write("/f", 0, mixed(size)), truncate("/f", at), truncate("/f", 6144))
			p.whole(t, "cut")
			p = on(t, roomy, create("/f"), write("/f", 0, mixed(size)))
			for _, n := range []int{0, 1, 2, 511, 512, 513, 1024, 6143, 6144} {
				if at+n <= 6144 {
					p.do(t, write("/f", at, strings.Repeat("w", n)))
					p.do(t, read("/f", max(at-3, 0), n+6-max(n-6138, 0)))
				}
			}
			p.whole(t, "written")
			for _, n := range edges {
				p.do(t, read("/f", at, n))
			}
		}
	}
}

// P19.2: a file has its most bytes, in the most sectors, and none again, which gives all of them back.
func TestMostBytes(t *testing.T) {
	p := on(t, roomy, create("/f"))
	free := p.x.Free()
	for range 3 {
		for _, c := range []api.Call{write("/f", 0, mixed(6144)), truncate("/f", 0), write("/f", 6143, "x"), truncate("/f", 0), truncate("/f", 6144), truncate("/f", 0)} {
			if r := p.do(t, c); r.Err != api.OK {
				t.Errorf("%s: %v", show(c), r.Err)
			}
			p.whole(t, show(c))
			if want := free; c.N == 0 && c.Data == "" && p.x.Free() != want {
				t.Errorf("%s: %d free, want %d", show(c), p.x.Free(), want)
			}
		}
	}
}

// full has a list of the most bytes in a folder: 6144.
func full(t *testing.T, p *trio, folder string) {
	t.Helper()
	for i := range 170 {
		p.do(t, link("/f", folder+"/"+name(30, i)))
	}
	if r := p.do(t, link("/f", folder+"/"+name(19, 200))); r.Err != api.ErrSize {
		t.Fatalf("one byte too many: %v", r.Err)
	}
	p.do(t, link("/f", folder+"/"+name(18, 200)))
	if r := p.do(t, stat(folder)); r.Size != 6144 {
		t.Fatalf("the list has %d bytes", r.Size)
	}
}

// P19.2: a folder's list grows to its most bytes, past all its sectors, and shrinks to none.
func TestMostNames(t *testing.T) {
	p := on(t, roomy, create("/f"), mkdir("/d"))
	free := p.x.Free()
	full(t, p, "/d")
	p.whole(t, "full")
	for _, c := range []api.Call{create("/d/x"), mkdir("/d/x"), link("/f", "/d/x"), rename("/f", "/d/x"), rename("/d/"+name(30, 7), "/d/"+name(30, 8))} {
		want := api.ErrSize
		if c.Op == api.OpRename && c.To != "/d/x" {
			want = api.ErrExist
		}
		if r := p.do(t, c); r.Err != want {
			t.Errorf("%s: %v", show(c), r.Err)
		}
	}
	p.do(t, rename("/d/"+name(30, 7), "/d/"+name(30, 700)))
	p.do(t, rename("/d/"+name(30, 8), "/d/x"))
	p.do(t, create("/d/"+name(23, 99)))
	p.whole(t, "full again")
	for _, n := range p.do(t, readdir("/d")).Names {
		if r := p.do(t, unlink("/d/"+n)); r.Err != api.OK {
			t.Fatalf("unlink %s: %v", n, r.Err)
		}
	}
	p.whole(t, "empty")
	if p.x.Free() != free {
		t.Errorf("%d free, want %d", p.x.Free(), free)
	}
}

// P19.2: one list of the root gets its most bytes, as a folder's does.
func TestMostNamesInRoot(t *testing.T) {
	p := on(t, roomy, create("/f"))
	n := 0
	for i := 0; n < 6144; i++ {
		long := min(30, 6144-n-6)
		s := name(long, i)
		if sumOf(s) != 3 {
			continue
		}
		if 6144-n-6-long < 7 && 6144-n > 36 { // nothing too small is to be left
			s = s[:long-7]
			if sumOf(s) != 3 {
				continue
			}
		}
		p.do(t, link("/f", "/"+s))
		n += 6 + len(s)
	}
	if r := p.do(t, link("/f", "/c")); r.Err != api.ErrSize {
		t.Errorf("c: %v", r.Err)
	}
	if r := p.do(t, link("/f", "/d")); r.Err != api.OK {
		t.Errorf("d: %v", r.Err)
	}
	p.do(t, stat("/"))
	p.whole(t, "at the end")
}

// P19.2: a file has 1000 names, and no more.
func TestMostLinks(t *testing.T) {
	p := on(t, roomy, create("/f"), mkdir("/1"), mkdir("/2"), mkdir("/3"), mkdir("/4"), mkdir("/5"))
	for i := range 999 {
		if r := p.do(t, link("/f", "/"+string(rune('1'+i/200))+"/"+name(10, i))); r.Err != api.OK {
			t.Fatalf("name %d: %v", i, r.Err)
		}
	}
	for _, c := range []api.Call{link("/f", "/g"), link("/1/"+name(10, 0), "/g"), link("/f", "/no/x"), link("/f", "/f")} {
		if r := p.do(t, c); r.Err != api.ErrSize {
			t.Errorf("%s: %v", show(c), r.Err)
		}
	}
	p.whole(t, "1000 names")
	p.do(t, unlink("/2/"+name(10, 201)))
	if r := p.do(t, link("/f", "/g")); r.Err != api.OK {
		t.Errorf("one fewer: %v", r.Err)
	}
}

// P19.2: renames within a list, to another list of the root, to other folders; of folders with what is in them.
func TestRenames(t *testing.T) {
	p := on(t, roomy, base...)
	for _, c := range []api.Call{
		rename("/f", "/j"), rename("/j", "/k"), rename("/k", "/d/k"), rename("/d/k", "/d/e/k"), rename("/d/e/k", "/o/k"), rename("/o/k", "/o/l"), rename("/d", "/D"), rename("/D/e", "/e"), rename("/e", "/o/e"),
		rename("/o", "/x"), rename("/x/e", "/D/"+name(30, 5)), rename("/D", "/x/D"), rename("/x", "/f"), rename("/t", "/f/D/t"), rename("/f/D/"+name(30, 5), "/a"),
	} {
		if r := p.do(t, c); r.Err != api.OK {
			t.Fatalf("%s: %v", show(c), r.Err)
		}
		p.whole(t, show(c))
		for _, l := range p.x.All() {
			p.do(t, stat(l.Path))
			p.do(t, read(l.Path, 0, 6144))
		}
	}
}

// P19.4: names of the most bytes, eight deep, in long lists: no call has more than 37 changes.
func TestMostChanges(t *testing.T) {
	p := on(t, roomy, create("/f"), mkdir("/d"), mkdir("/e"))
	full(t, p, "/d")
	full(t, p, "/e")
	p.do(t, unlink("/e/"+name(30, 0)))
	most := 0
	for i, c := range []api.Call{rename("/d/"+name(30, 0), "/e/"+name(30, 0)), rename("/e/"+name(30, 1), "/d/"+name(30, 0)), unlink("/d/" + name(30, 0)), create("/d/" + name(30, 0))} {
		_, row, _ := p.d.do(t, c)
		if most = max(most, len(row)); i == 0 && len(row) < 26 {
			t.Errorf("%s: %d changes", show(c), len(row))
		}
		p.do(t, c)
	}
	p.do(t, write("/f", 0, mixed(6144)))
	p.whole(t, "at the end")
}
