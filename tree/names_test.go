package tree_test

import (
	"fmt"
	"strings"
	"testing"

	"lockgate/api"
	"lockgate/tree"
)

// free looks how many sectors are.
func free(t *testing.T, what string, x *tree.Tree, want int) {
	t.Helper()
	if x.Free() != want {
		t.Errorf("%s: %d free, want %d", what, x.Free(), want)
	}
	if r := x.Do(statfs()); !equal(r, api.Reply{Free: want}) {
		t.Errorf("%s: OpStatfs tells %v, want %d", what, r, want)
	}
}

// statOf looks what a thing is.
func statOf(t *testing.T, x *tree.Tree, path string, kind, links, size int) {
	t.Helper()
	if r := x.Do(stat(path)); !equal(r, api.Reply{Kind: kind, Links: links, Size: size}) {
		t.Errorf("OpStat of %.40s: %v, want %d %d %d", path, r, kind, links, size)
	}
}

// P16.1 and P16.3: how many sectors are free behind each call, counted by hand.
func TestFree(t *testing.T) {
	x := tree.New(30)
	long := "/" + strings.Repeat("a", 30) // of zone 2
	for _, s := range []struct {
		c    api.Call
		free int
	}{
		{create("/a"), 28},            // zone 1's list, and the file
		{create("/b"), 26},            // zone 2's list, and the file
		{create("/e"), 25},            // the file; zone 1 has a list
		{mkdir("/d"), 23},             // zone 0's list, and the folder
		{create("/d/x"), 21},          // its list, and the file
		{write("/d/x", 0, "x"), 20},   // its first sector
		{write("/d/x", 511, "x"), 20}, // that is full
		{write("/d/x", 512, "x"), 19}, // one more
		{write("/d/x", 1024, ""), 19}, // two, full
		{truncate("/d/x", 1025), 18},  // three
		{link("/d/x", "/d/y"), 18},    // nothing but a name
		{link("/d/x", "/c"), 17},      // zone 3's list
		{unlink("/d/x"), 17},          // it has other names, and the list another one
		{unlink("/d/y"), 18},          // the list is empty
		{rename("/c", "/d/z"), 18},    // that list for zone 3's
		{rename("/d", "/k"), 18},      // zone 3's list for zone 0's
		{unlink("/k/z"), 23},          // the list, three sectors, the file
		{unlink("/k"), 25},            // the folder, and zone 3's list
		{unlink("/a"), 26},            // the file
		{unlink("/e"), 28},            // the file, and zone 1's list
		{unlink("/b"), 30},            // all
		{create(long), 28},
		{truncate(long, 6144), 16},
		{rename(long, "/a"), 16}, // zone 1's list for zone 2's
		{truncate("/a", 0), 28},
	} {
		told(t, x, []api.Call{s.c}, api.OK)
		free(t, show(s.c), x, s.free)
	}
}

// P16.3: a file has 1000 names at most.
func TestLinks(t *testing.T) {
	x := made(t, 1000, create("/f"), write("/f", 0, "x"), mkdir("/d0"), mkdir("/d1"), mkdir("/d2"), mkdir("/d3"))
	to := func(i int) string { return fmt.Sprintf("/d%d/%d", i%4, i) }
	for i := 1; i < 1000; i++ {
		told(t, x, []api.Call{link("/f", to(i))}, api.OK)
	}
	statOf(t, x, "/f", api.File, 1000, 1)
	statOf(t, x, to(777), api.File, 1000, 1)
	was := x.Free()
	first(t, x, api.ErrSize, link("/f", "/n"), link(to(5), to(1000)), link("/f", "/f"), link("/f", "/no/x"), link("/f", "/f/x"))
	free(t, "with 1000 names", x, was)
	told(t, x, []api.Call{rename(to(5), "/d0/5"), unlink(to(1)), link("/d0/5", "/n"), link("/n", "/m"), rename("/n", "/o"), unlink("/o"), link("/f", "/m")}, api.OK, api.OK, api.OK, api.ErrSize, api.OK, api.OK, api.OK)
	statOf(t, x, "/m", api.File, 1000, 1)
}

// P16.3: OpUnlink of files with several names, of empty folders, and of others.
func TestUnlink(t *testing.T) {
	x := made(t, 50, create("/f"), write("/f", 0, "abc"), link("/f", "/g"), mkdir("/d"), link("/g", "/d/h"), mkdir("/d/e"))
	told(t, x, []api.Call{unlink("/f"), unlink("/f"), unlink("/d"), unlink("/d/h/x")}, api.OK, api.ErrNone, api.ErrEmpty, api.ErrNotDir)
	statOf(t, x, "/g", api.File, 2, 3)
	told(t, x, []api.Call{unlink("/g"), unlink("/d")}, api.OK, api.ErrEmpty)
	if r := x.Do(read("/d/h", 0, 9)); r.Data != "abc" {
		t.Errorf("by its last name there are %q", r.Data)
	}
	told(t, x, []api.Call{unlink("/d/h"), unlink("/d"), unlink("/d/e"), unlink("/d"), create("/d"), unlink("/d/e")}, api.OK, api.ErrEmpty, api.OK, api.OK, api.OK, api.ErrNotDir)
	statOf(t, x, "/d", api.File, 1, 0)
	told(t, x, []api.Call{unlink("/d")}, api.OK)
	free(t, "at the end", x, 50)
}

// P16.3: a name that is free again is another thing's, with nothing of what it was.
func TestMadeAnew(t *testing.T) {
	x := made(t, 50, create("/f"), write("/f", 0, "abc"), link("/f", "/g"), unlink("/f"), mkdir("/f"))
	statOf(t, x, "/f", api.Folder, 1, 0)
	told(t, x, []api.Call{create("/f/x"), unlink("/f/x"), unlink("/f"), unlink("/g"), create("/f"), create("/g")}, api.OK, api.OK, api.OK, api.OK, api.OK, api.OK)
	statOf(t, x, "/f", api.File, 1, 0)
	statOf(t, x, "/g", api.File, 1, 0)
	told(t, x, []api.Call{write("/f", 0, "x")}, api.OK)
	statOf(t, x, "/g", api.File, 1, 0)
}

// P16.3: OpRename of files with several names, of folders with what is in them, and of those that would come into themselves.
func TestRename(t *testing.T) {
	x := made(t, 60, mkdir("/d"), mkdir("/d/e"), create("/d/e/f"), write("/d/e/f", 0, "abc"), link("/d/e/f", "/g"), mkdir("/h"))
	told(t, x, []api.Call{rename("/d/e", "/h/i"), rename("/d", "/h/i/d"), rename("/h", "/h/i/d/h"), rename("/h", "/h/x"), rename("/h/i", "/h/i/i"), rename("/h/i", "/h/j"), rename("/g", "/h/j/f"), rename("/g", "/h/j/d/f"), rename("/h", "/hh"), rename("/hh/j", "/h")},
		api.OK, api.OK, api.ErrArg, api.ErrArg, api.ErrArg, api.OK, api.ErrExist, api.OK, api.OK, api.OK)
	want := []api.Line{
		{Path: "/h", Kind: 2}, {Path: "/h/d", Kind: 2}, {Path: "/h/d/f", Kind: 1, ID: 1, Links: 2, Data: "abc"}, {Path: "/h/f", Kind: 1, ID: 1, Links: 2, Data: "abc"}, {Path: "/hh", Kind: 2},
	}
	if l := x.All(); fmt.Sprint(l) != fmt.Sprint(want) {
		t.Errorf("%v, want %v", l, want)
	}
	// A name that begins as another one isn't inside it.
	told(t, x, []api.Call{rename("/h", "/hh/h"), rename("/hh", "/h"), rename("/h", "/hhh"), rename("/hhh/h", "/hhh/hh")}, api.OK, api.OK, api.OK, api.OK)
	// Two files of one name change places.
	told(t, x, []api.Call{rename("/hhh/hh/f", "/t"), rename("/hhh/hh/d/f", "/hhh/hh/f"), rename("/t", "/hhh/hh/d/f"), rename("/t", "/u")}, api.OK, api.OK, api.OK, api.ErrNone)
}

// P16.3: what is moved with its folder may come to lie deeper than a path leads; it is there, and comes back.
func TestDeep(t *testing.T) {
	x := made(t, 90, mkdir("/1"), mkdir("/1/2"), mkdir("/1/2/3"), create("/1/2/3/f"), mkdir("/a"), mkdir("/a/b"), mkdir("/a/b/c"), mkdir("/a/b/c/d"), mkdir("/a/b/c/d/e"), mkdir("/a/b/c/d/e/f"), rename("/1", "/a/b/c/d/e/f/g"))
	l := x.All()
	if n := len(l); n != 10 || l[n-1].Path != "/a/b/c/d/e/f/g/2/3/f" || l[n-1].ID != 1 {
		t.Errorf("%v", l)
	}
	first(t, x, api.ErrArg, stat("/a/b/c/d/e/f/g/2/3"), unlink("/a/b/c/d/e/f/g/2/3"), create("/a/b/c/d/e/f/g/2/x"))
	first(t, x, api.ErrEmpty, unlink("/a/b/c/d/e/f/g/2"))
	told(t, x, []api.Call{rename("/a/b/c/d/e/f/g/2", "/2"), unlink("/2/3/f")}, api.OK, api.OK)
}

// fill makes a folder's list have so many bytes, by names of /f.
func fill(t *testing.T, x *tree.Tree, path string, size int) {
	t.Helper()
	for i := 0; size > 0; i++ {
		n := min(size, 36) // a name of 30 bytes, but for the last ones
		if left := size - n; left > 0 && left < 7 {
			n -= 7
		}
		told(t, x, []api.Call{link("/f", path+"/"+name(n-6, i))}, api.OK)
		size -= n
	}
}

// other is a name of n bytes that fill doesn't make.
func other(n int) string { return strings.Repeat("-", n) }

// P16.3: a list has 6144 bytes at most, of names of any length.
func TestLongList(t *testing.T) {
	for _, c := range []struct {
		size, last int
		want       api.Errno
	}{
		{6144 - 7, 1, api.OK}, {6144 - 7, 2, api.ErrSize}, {6144 - 7, 30, api.ErrSize}, {6144 - 6, 1, api.ErrSize}, {6144, 1, api.ErrSize}, {6144 - 36, 30, api.OK}, {6144 - 35, 30, api.ErrSize}, {6144 - 37, 30, api.OK},
	} {
		x := made(t, 60, create("/f"), create("/g"), mkdir("/h"), mkdir("/d"))
		fill(t, x, "/d", c.size)
		statOf(t, x, "/d", api.Folder, 1, c.size)
		path := "/d/" + other(c.last)
		for _, call := range []api.Call{create(path), mkdir(path), link("/f", path), link("/g", path), rename("/g", path), rename("/h", path)} {
			y := x.Copy()
			told(t, y, []api.Call{call}, c.want)
			if c.want == api.OK {
				statOf(t, y, "/d", api.Folder, 1, c.size+6+c.last)
			} else {
				free(t, "behind ErrSize", y, x.Free())
			}
		}
	}
}

// zone0 are n paths of names of 30 bytes that stand in the root's first list.
func zone0(n int) []string {
	var l []string
	for i := 0; len(l) < n; i++ {
		if p := "/" + name(30, i); list(p) == "0" {
			l = append(l, p)
		}
	}
	return l
}

// P16.3: so it is of each of the root's lists by itself.
func TestLongRoot(t *testing.T) {
	x := made(t, 2000, mkdir("/d"), create("/d/f"))
	paths := zone0(171)
	for _, path := range paths[:170] {
		told(t, x, []api.Call{link("/d/f", path)}, api.OK)
	}
	statOf(t, x, "/", api.Folder, 1, 7+36*170) // 6127
	more := paths[170]
	first(t, x, api.ErrSize, create(more), mkdir(more), link("/d/f", more), rename("/d/f", more), rename("/d", more))
	told(t, x, []api.Call{create("/a"), mkdir("/b"), link("/a", "/c"), rename("/b", "/g")}, api.OK, api.OK, api.OK, api.OK)
	told(t, x, []api.Call{
		create("/dd"), mkdir("/hh"), create("/h"), rename("/d", "/hhhh"), rename("/d", "/h"), create("/d"), rename("/hh", "/hhhh"), rename("/hh", "/hhh"), // of zone 0, all
	}, api.OK, api.OK, api.ErrSize, api.ErrSize, api.OK, api.ErrSize, api.ErrSize, api.OK)
	statOf(t, x, "/", api.Folder, 1, 6144+3*7)
	free(t, "at the end", x, 2000-2-1-1-1-1-1-12-2)
}

// P16.3: OpRename in a list of 6144 bytes: no longer a name, but as long a one, and a shorter one.
func TestRenameInFullList(t *testing.T) {
	x := made(t, 60, create("/f"), mkdir("/d"), mkdir("/e"))
	fill(t, x, "/d", 6144-8)
	told(t, x, []api.Call{
		create("/d/zz"), rename("/d/zz", "/d/zzz"), rename("/d/zz", "/d/"+other(30)), rename("/d/zz", "/d/z-"), rename("/d/z-", "/d/z"), rename("/d/z", "/d/zz"),
		rename("/d/zz", "/e/"+other(30)), rename("/e/"+other(30), "/d/zzz"), rename("/e/"+other(30), "/d/zz"),
	}, api.OK, api.ErrSize, api.ErrSize, api.OK, api.OK, api.OK, api.OK, api.ErrSize, api.OK)
	statOf(t, x, "/d", api.Folder, 1, 6144)
	free(t, "at the end", x, 60-1-1-12-1-1-3) // the files and folders, the list, the root's three
}

// P16.3: OpCreate and OpMkdir need a sector beside those of the list, OpLink none.
func TestRoomForNew(t *testing.T) {
	for _, c := range []struct {
		size, last, free int
		makes, links     api.Errno
	}{
		{0, 1, 0, api.ErrFull, api.ErrFull}, {0, 1, 1, api.ErrFull, api.OK}, {0, 1, 2, api.OK, api.OK},
		{505, 1, 0, api.ErrFull, api.OK}, {505, 1, 1, api.OK, api.OK}, {506, 1, 0, api.ErrFull, api.ErrFull}, {506, 1, 1, api.ErrFull, api.OK}, {506, 1, 2, api.OK, api.OK},
		{512, 30, 1, api.ErrFull, api.OK}, {512, 30, 2, api.OK, api.OK}, {476, 30, 0, api.ErrFull, api.OK}, {477, 30, 0, api.ErrFull, api.ErrFull}, {477, 30, 1, api.ErrFull, api.OK},
		{6137, 1, 0, api.ErrFull, api.OK}, {6137, 1, 1, api.OK, api.OK}, {6138, 1, 0, api.ErrSize, api.ErrSize},
	} {
		x := made(t, 4+need(c.size)+c.free, create("/f"), mkdir("/d")) // these, and two of the root's lists
		fill(t, x, "/d", c.size)
		free(t, fmt.Sprint(c), x, c.free)
		path := "/d/" + other(c.last)
		for _, call := range []api.Call{create(path), mkdir(path)} {
			told(t, x.Copy(), []api.Call{call}, c.makes)
		}
		told(t, x.Copy(), []api.Call{link("/f", path)}, c.links)
	}
}

// P16.3: OpRename with no room left: what the old list needs no more doesn't help the new one, but within a list it does.
func TestRoomForRename(t *testing.T) {
	x := made(t, 9, create("/f"), mkdir("/d"), mkdir("/e"), create("/e/x")) // three of the root's lists, and one in /e: 8
	told(t, x, []api.Call{write("/f", 0, "x")}, api.OK)
	free(t, "full", x, 0)
	told(t, x, []api.Call{
		rename("/e/x", "/d/x"),  // a list for another one
		rename("/e/x", "/c"),    // of the root's, too
		rename("/d", "/g"),      // the same
		rename("/d", "/dddd"),   // within zone 0's list
		rename("/dddd", "/h"),   // a shorter one
		rename("/e/x", "/e/yy"), // within a list, longer
		rename("/e/yy", "/b"),   // zone 2's list is there
		rename("/b", "/e/y"),    // /e's is no more: now there is a sector
		rename("/e/y", "/h/y"),  // and now there is none
	}, api.ErrFull, api.ErrFull, api.ErrFull, api.OK, api.OK, api.OK, api.OK, api.OK, api.ErrFull)
	free(t, "at the end", x, 0)

	y := made(t, 5, create("/f"), mkdir("/d")) // two of the root's lists, and one in /d
	fill(t, y, "/d", 493)
	told(t, y, []api.Call{link("/f", "/d/-"), rename("/d/-", "/d/"+other(14)), rename("/d/-", "/d/"+other(13)), rename("/d/"+other(13), "/d/"+other(14)), rename("/d/"+other(13), "/d/-")},
		api.OK, api.ErrFull, api.OK, api.ErrFull, api.OK)
	statOf(t, y, "/d", api.Folder, 1, 500)
	free(t, "at the end", y, 0)
}
