package tree_test

import (
	"fmt"
	"slices"
	"testing"

	"lockgate/api"
	"lockgate/tree"
)

// namesOf looks which names OpReaddir tells.
func namesOf(t *testing.T, x *tree.Tree, path string, want ...string) {
	t.Helper()
	if r := x.Do(readdir(path)); !equal(r, api.Reply{Names: want}) {
		t.Errorf("OpReaddir of %s: %v, want %v", path, r, want)
	}
}

// P16.5: OpReaddir of the root, of whose lists all are told together, of folders, and of files.
func TestReaddir(t *testing.T) {
	x := tree.New(100)
	namesOf(t, x, "/")
	order := []string{"m", "B", "z.9", "a", "-", "_", "0", "ab", "A", "a.", "a-", "aa", "Z", "10", "9", "...", "y"}
	for i, name := range order {
		c := create("/" + name)
		if i%3 == 0 {
			c = mkdir("/" + name)
		}
		told(t, x, []api.Call{c}, api.OK)
	}
	namesOf(t, x, "/", "-", "...", "0", "10", "9", "A", "B", "Z", "_", "a", "a-", "a.", "aa", "ab", "m", "y", "z.9")
	for _, name := range order {
		told(t, x, []api.Call{link("/B", "/m/"+name)}, api.OK)
	}
	namesOf(t, x, "/m", "-", "...", "0", "10", "9", "A", "B", "Z", "_", "a", "a-", "a.", "aa", "ab", "m", "y", "z.9")
	namesOf(t, x, "/a")
	told(t, x, []api.Call{mkdir("/m/n"), create("/m/n/x"), rename("/m/a", "/m/zz"), unlink("/m/B"), unlink("/m/ab")}, api.OK, api.OK, api.OK, api.OK, api.OK)
	namesOf(t, x, "/m", "-", "...", "0", "10", "9", "A", "Z", "_", "a-", "a.", "aa", "m", "n", "y", "z.9", "zz")
	namesOf(t, x, "/m/n", "x")
	first(t, x, api.ErrNotDir, readdir("/B"), readdir("/m/zz"), readdir("/m/n/x"), readdir("/B/x"))
	first(t, x, api.ErrNone, readdir("/m/a"), readdir("/x"))
}

// P16.5: OpStat of files, of folders, whose Size is that of their lists, and of the root, whose is that of all four.
func TestStat(t *testing.T) {
	x := tree.New(100)
	statOf(t, x, "/", api.Folder, 1, 0)
	told(t, x, []api.Call{create("/a"), mkdir("/bb"), create("/ccc"), mkdir("/dddd"), create("/bb/" + name(30, 5)), write("/a", 700, "x")}, api.OK, api.OK, api.OK, api.OK, api.OK, api.OK)
	statOf(t, x, "/", api.Folder, 1, 7+8+9+10)
	statOf(t, x, "/bb", api.Folder, 1, 36)
	statOf(t, x, "/dddd", api.Folder, 1, 0)
	statOf(t, x, "/a", api.File, 1, 701)
	statOf(t, x, "/ccc", api.File, 1, 0)
	told(t, x, []api.Call{mkdir("/bb/x"), mkdir("/bb/x/y"), link("/a", "/bb/b"), unlink("/bb/" + name(30, 5)), rename("/ccc", "/bb/x/ccc")}, api.OK, api.OK, api.OK, api.OK, api.OK)
	statOf(t, x, "/bb", api.Folder, 1, 14)
	statOf(t, x, "/bb/x", api.Folder, 1, 7+9)
	statOf(t, x, "/", api.Folder, 1, 7+8+10)
	statOf(t, x, "/bb/b", api.File, 2, 701)
}

// P16.5: OpSync tells nothing, and OpStatfs what is free; neither does anything.
func TestSyncAndStatfs(t *testing.T) {
	x, m := twins(t, baseNeeds+5, base...)
	for range 3 {
		if r := x.Do(api.Call{Op: api.OpSync}); !equal(r, api.Reply{}) {
			t.Errorf("OpSync: %v", r)
		}
		free(t, "base", x, 5)
		same(t, "base", x, m)
	}
}

// P16.6: the lines' paths rise as texts, not as rows of names; files have their numbers by their first paths.
func TestAll(t *testing.T) {
	x := made(t, 100, mkdir("/b"), create("/b/f"), write("/b/f", 0, "one"), create("/b-"), write("/b-", 0, "two"), link("/b/f", "/z"), mkdir("/b."), create("/b./x"), create("/b0"), mkdir("/a"), mkdir("/a/a"), link("/b-", "/a/a/l"), create("/B"), write("/B", 1, "3"), link("/b-", "/b/g"), link("/b0", "/b/c"))
	want := []api.Line{
		{Path: "/B", Kind: 1, ID: 1, Links: 1, Data: "\x003"},
		{Path: "/a", Kind: 2}, {Path: "/a/a", Kind: 2},
		{Path: "/a/a/l", Kind: 1, ID: 2, Links: 3, Data: "two"},
		{Path: "/b", Kind: 2},
		{Path: "/b-", Kind: 1, ID: 2, Links: 3, Data: "two"},
		{Path: "/b.", Kind: 2},
		{Path: "/b./x", Kind: 1, ID: 3, Links: 1},
		{Path: "/b/c", Kind: 1, ID: 4, Links: 2},
		{Path: "/b/f", Kind: 1, ID: 5, Links: 2, Data: "one"},
		{Path: "/b/g", Kind: 1, ID: 2, Links: 3, Data: "two"},
		{Path: "/b0", Kind: 1, ID: 4, Links: 2},
		{Path: "/z", Kind: 1, ID: 5, Links: 2, Data: "one"},
	}
	if l := x.All(); !slices.Equal(l, want) {
		t.Errorf("%v, want %v", l, want)
	}
	// The numbers follow from what is there, not from what was.
	told(t, x, []api.Call{unlink("/B"), unlink("/a/a/l"), unlink("/b-"), rename("/z", "/A")}, api.OK, api.OK, api.OK, api.OK)
	ids := ""
	for _, line := range x.All() {
		ids += fmt.Sprint(line.Path, " ", line.ID, ", ")
	}
	if ids != "/A 1, /a 0, /a/a 0, /b 0, /b. 0, /b./x 2, /b/c 3, /b/f 1, /b/g 4, /b0 3, " {
		t.Error(ids)
	}
}

// R3: what was told stays as it is, and whatever is done to it has no effect.
func TestMemory(t *testing.T) {
	x, m := twins(t, baseNeeds+20, base...)
	names, lines := x.Do(readdir("/")).Names, x.All()
	inD := x.Do(readdir("/d")).Names
	was, wasLines, wasD := slices.Clone(names), slices.Clone(lines), slices.Clone(inD)
	bytes := x.Do(read("/f", 0, 100)).Data
	for _, c := range []api.Call{write("/f", 0, "other"), rename("/f", "/a"), unlink("/o"), create("/d/a"), rename("/d/g", "/d/0"), truncate("/t", 3)} {
		both(t, x, m, c)
	}
	if !slices.Equal(names, was) || !slices.Equal(lines, wasLines) || !slices.Equal(inD, wasD) || bytes != "some bytes" {
		t.Errorf("what was told is %v, %v, %v, %q now", names, lines, inD, bytes)
	}
	for _, path := range []string{"/", "/d", "/d/e"} {
		l := x.Do(readdir(path)).Names
		for i := range l[:cap(l)] {
			l[:cap(l)][i] = "spoiled"
		}
	}
	all := x.All()
	clear(all[:cap(all)])
	same(t, "behind that", x, m)
	for _, c := range pool() {
		both(t, x, m, c)
	}
	same(t, "and that", x, m)
}
