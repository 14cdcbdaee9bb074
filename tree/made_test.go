package tree_test

import (
	"math"
	"slices"
	"testing"

	"lockgate/api"
	"lockgate/tree"
)

// P16.1: a new tree has nothing but the root, and as many sectors as were asked for, kept from 0 to 2^40.
func TestNew(t *testing.T) {
	for _, c := range [][2]int{
		{0, 0}, {1, 1}, {2, 2}, {9, 9}, {1 << 40, 1 << 40}, {1<<40 - 1, 1<<40 - 1}, {1<<40 + 1, 1 << 40}, {1 << 62, 1 << 40}, {math.MaxInt, 1 << 40},
		{-1, 0}, {-1 << 40, 0}, {math.MinInt, 0},
	} {
		x := tree.New(c[0])
		if x.Free() != c[1] || len(x.All()) != 0 || x.Do(statfs()).Free != c[1] {
			t.Errorf("New(%d): %d free, %v", c[0], x.Free(), x.All())
		}
		if r := x.Do(stat("/")); !equal(r, api.Reply{Kind: api.Folder, Links: 1}) {
			t.Errorf("New(%d): the root is %v", c[0], r)
		}
		if r := x.Do(readdir("/")); !equal(r, api.Reply{}) {
			t.Errorf("New(%d): in the root there is %v", c[0], r)
		}
	}
}

// P16.1: a room so great is taken up as any other.
func TestNewGreat(t *testing.T) {
	x := tree.New(math.MaxInt)
	told(t, x, []api.Call{create("/a"), write("/a", 6143, "x")}, api.OK, api.OK)
	if x.Free() != 1<<40-14 {
		t.Errorf("%d free", x.Free())
	}
}

// P16.1: a copy is the same, and what is done to one isn't done to the other.
func TestCopy(t *testing.T) {
	base := []api.Call{create("/f"), write("/f", 0, "bytes"), mkdir("/d"), create("/d/g"), link("/f", "/d/h"), mkdir("/d/e"), create("/gone")}
	changes := []api.Call{
		write("/f", 2, "XY"), truncate("/d/h", 1), unlink("/gone"), rename("/d", "/e"), create("/d/new"), mkdir("/j"), link("/f", "/d/e/i"), unlink("/d/g"), rename("/d/g", "/d/a"), write("/d/g", 5000, "Z"),
	}
	for _, c := range changes {
		x, m := twins(t, 100, base...)
		y := x.Copy()
		z := y.Copy()
		same(t, "a copy", y, m)
		both(t, y, m.copied(), c)
		same(t, "what was copied", x, m)
		same(t, "a copy's copy", z, m)
		y = x.Copy()
		n := m.copied()
		both(t, x, m, c)
		same(t, "a copy of what was changed", y, n)
		for _, c := range changes { // it is a whole one, to which all may be done
			both(t, y, n, c)
			same(t, show(c), y, n)
		}
	}
	x := tree.New(7).Copy()
	if x.Free() != 7 || len(x.All()) != 0 {
		t.Errorf("a new one's copy: %d free, %v", x.Free(), x.All())
	}
	told(t, x, []api.Call{create("/a"), write("/a", 0, "x")}, api.OK, api.OK)
}

// P16.1: trees have nothing in common.
func TestTwoTrees(t *testing.T) {
	x, y := tree.New(9), tree.New(9)
	told(t, x, []api.Call{create("/a"), mkdir("/b")}, api.OK, api.OK)
	if y.Free() != 9 || len(y.All()) != 0 {
		t.Errorf("the other one has %d free, %v", y.Free(), y.All())
	}
	told(t, y, []api.Call{create("/a")}, api.OK)
}

// A nil tree: ErrArg, nothing, 0, nil.
func TestNil(t *testing.T) {
	var x *tree.Tree
	for op := -1; op <= 14; op++ {
		c := api.Call{Op: op, Path: "/a", To: "/b"}
		if r := x.Do(c); !equal(r, api.Reply{Err: api.ErrArg}) {
			t.Errorf("%s: %v", show(c), r)
		}
	}
	if r := x.Do(write("/a", 7000, "")); !equal(r, api.Reply{Err: api.ErrArg}) {
		t.Errorf("a write: %v", r)
	}
	if len(x.All()) != 0 || x.Free() != 0 || x.Copy() != nil {
		t.Errorf("%v, %d, %v", x.All(), x.Free(), x.Copy())
	}
}

// A zero tree is New(0).
func TestZero(t *testing.T) {
	var x tree.Tree
	m := newModel(0)
	same(t, "zero", &x, m)
	same(t, "its copy", x.Copy(), m)
	for _, c := range pool() {
		both(t, &x, m, c)
	}
	same(t, "zero", &x, m)
	told(t, &x, []api.Call{create("/a"), mkdir("/a"), stat("/a")}, api.ErrFull, api.ErrFull, api.ErrNone)
	if r := x.Do(stat("/")); !equal(r, api.Reply{Kind: api.Folder, Links: 1}) {
		t.Errorf("its root is %v", r)
	}
}

// The chapter's examples.
func TestExamples(t *testing.T) {
	x := made(t, 9, create("/a"), write("/a", 0, "xy"))
	if r := x.Do(statfs()); !equal(r, api.Reply{Free: 6}) {
		t.Errorf("OpStatfs: %v", r)
	}
	told(t, x, []api.Call{link("/a", "/b")}, api.OK)
	if r := x.Do(stat("/b")); !equal(r, api.Reply{Kind: api.File, Links: 2, Size: 2}) {
		t.Errorf("OpStat: %v", r)
	}
	told(t, made(t, 9), []api.Call{mkdir("/d"), rename("/d", "/d/e")}, api.OK, api.ErrArg)
	told(t, made(t, 9), []api.Call{mkdir("/a"), mkdir("/a/b"), rename("/a", "/a/b/c")}, api.OK, api.OK, api.ErrArg)
}

// P1 and R4: the same calls have the same answers, whatever they are.
func TestAgain(t *testing.T) {
	x, y := tree.New(60), tree.New(60)
	for _, c := range pool() {
		if a, b := x.Do(c), y.Do(c); !equal(a, b) {
			t.Fatalf("%s: %s, and %s", show(c), short(a), short(b))
		}
	}
	if x.Free() != y.Free() || !slices.Equal(x.All(), y.All()) {
		t.Errorf("%v, and %v", x.All(), y.All())
	}
}
