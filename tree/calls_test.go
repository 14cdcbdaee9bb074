package tree_test

import (
	"slices"
	"strings"
	"testing"

	"lockgate/api"
	"lockgate/tree"
)

// some are paths: none, the root's, such as lead to things of base, through files, and to nothing.
var some = []string{
	"", "/", "a", "a/b", "//", "/a/", "/d//g", "/.", "/..", "/d/..", "/./d", "/a b", "/a\x00", "/" + name(31, 0), "/1/2/3/4/5/6/7/8/9",
	"/f", "/d", "/d/g", "/d/e", "/d/e/h", "/o", "/t", "/f/x", "/f/x/y", "/d/g/x", "/d/g/x/y", "/no", "/no/x", "/d/no", "/d/no/x", "/d/e/no", "/o/no", "/d/e/no/x",
	"/b", "/" + name(30, 1), "/d/" + name(30, 2), "/1/2/3/4/5/6/7/8", "/d/e/h/1/2/3/4/5", "/D", "/d/G",
}

// few are those of them that differ in kind.
var few = []string{"", "/", "/a/", "/f", "/d", "/d/g", "/d/e/h", "/o", "/f/x", "/no", "/d/no/x", "/d/no"}

// base makes a tree with something of each kind.
var base = []api.Call{
	create("/f"), write("/f", 0, "some bytes"), mkdir("/d"), create("/d/g"), write("/d/g", 600, "x"), mkdir("/d/e"), create("/d/e/h"), link("/f", "/d/e/j"), mkdir("/o"), create("/t"), write("/t", 0, strings.Repeat("t", 6144)),
}

// pool are calls of all kinds, right ones and wrong ones.
func pool() []api.Call {
	var l []api.Call
	for _, op := range append([]int{-1, 0, 1, 2, 3, 4, 5, 6, 7, 8, 9, 10, 11, 12, 13, 14, 1 << 32, 1<<32 + 1}, far...) {
		for _, path := range some {
			l = append(l, api.Call{Op: op, Path: path}, api.Call{Op: op, Path: path, To: "/d/n", At: 3, N: 7, Data: "data"})
		}
	}
	return l
}

// each does each of some calls in a tree of its own, and looks at what it tells, and at what there is behind it.
func each(t *testing.T, x *tree.Tree, m *model, l []api.Call) {
	t.Helper()
	lines, free := m.all(), m.free()
	for _, c := range l {
		y, n := x.Copy(), m.copied()
		if r := both(t, y, n, c); r.Err == api.OK {
			same(t, show(c), y, n)
		} else if y.Free() != free || !slices.Equal(y.All(), lines) {
			t.Fatalf("%s: told %v, and did something: %.60v", show(c), r.Err, y.All())
		}
	}
}

// rooms are how many sectors are free behind base, beside what it needs.
var rooms = []int{0, 1, 2, 3, 12, 13, 100}

// baseNeeds is how many sectors base needs.
const baseNeeds = 1 + 1 + 1 + 2 + 1 + 1 + 1 + 1 + 13 + 2 + 3

// P16.2 to P16.5: each call, of each path, in trees with much room and with little.
func TestEachPath(t *testing.T) {
	for _, room := range rooms {
		x, m := twins(t, baseNeeds+room, base...)
		if x.Free() != room {
			t.Fatalf("%d free, want %d", x.Free(), room)
		}
		each(t, x, m, pool())
	}
}

// P16.2 and P16.3: OpLink and OpRename of each pair of paths.
func TestEachPair(t *testing.T) {
	for _, room := range []int{0, 1, 100} {
		x, m := twins(t, baseNeeds+room, base...)
		for _, path := range some {
			var l []api.Call
			for _, to := range some {
				l = append(l, link(path, to), rename(path, to))
			}
			each(t, x, m, l)
		}
	}
}

// P16.2: what To is matters of OpLink and OpRename alone; of OpSync and OpStatfs neither path does.
func TestOtherFields(t *testing.T) {
	x, m := twins(t, baseNeeds+50, base...)
	var l []api.Call
	for op := 1; op <= 12; op++ {
		for _, path := range few {
			for _, to := range few {
				l = append(l, api.Call{Op: op, Path: path, To: to, At: 1, N: 2, Data: "x"})
			}
			// Numbers and bytes of calls that don't ask for them.
			l = append(l, api.Call{Op: op, Path: path, To: "/n", At: -1, N: 3}, api.Call{Op: op, Path: path, To: "/n", At: 3, N: -1}, api.Call{Op: op, Path: path, To: "/n", At: 7000, N: 3},
				api.Call{Op: op, Path: path, To: "/n", At: 3, N: 7000}, api.Call{Op: op, Path: path, To: "/n", Data: strings.Repeat("x", 7000)})
		}
	}
	each(t, x, m, l)
	for _, path := range some {
		for _, to := range few {
			if r := x.Do(api.Call{Op: api.OpSync, Path: path, To: to, At: -1, N: -1, Data: "x"}); !equal(r, api.Reply{}) {
				t.Errorf("OpSync of %q: %v", path, r)
			}
			if r := x.Do(api.Call{Op: api.OpStatfs, Path: path, To: to, At: -1, N: -1, Data: "x"}); !equal(r, api.Reply{Free: 50}) {
				t.Errorf("OpStatfs of %q: %v", path, r)
			}
		}
	}
}

// P16.2 and P16.4: OpRead, OpWrite and OpTruncate with numbers of all kinds.
func TestEachNumber(t *testing.T) {
	numbers := append([]int{-1, 0, 1, 9, 10, 11, 511, 512, 513, 600, 601, 602, 6143, 6144, 6145}, far...)
	for _, room := range []int{0, 1, 11, 12, 50} {
		x, m := twins(t, baseNeeds+room, base...)
		for _, path := range few {
			var l []api.Call
			for _, a := range numbers {
				for _, b := range numbers {
					l = append(l, read(path, a, b))
				}
				for _, n := range []int{0, 1, 2, 512, 6143, 6144, 6145, 10000} {
					l = append(l, write(path, a, strings.Repeat("w", n)), write(path, 6144-n, strings.Repeat("v", n)), write(path, 6145-n, strings.Repeat("u", n)))
				}
				l = append(l, truncate(path, a))
			}
			each(t, x, m, l)
		}
	}
}

// first looks that of several errors that hold the one that the chapter names first is told.
func first(t *testing.T, x *tree.Tree, want api.Errno, l ...api.Call) {
	t.Helper()
	for _, c := range l {
		if r := x.Do(c); !equal(r, api.Reply{Err: want}) {
			t.Errorf("%s: told %s, want %v", show(c), short(r), want)
		}
	}
}

// P16.2: ErrArg comes ahead of all, then ErrSize, then what walking brings.
func TestFirstAhead(t *testing.T) {
	x := made(t, baseNeeds, base...)
	long := strings.Repeat("x", 7000)
	first(t, x, api.ErrArg,
		create("a"), create("/"), mkdir(""), mkdir("/"), link("/", "/n"), link("/f", "/"), link("/f", "n"), link("/no", "/"), link("/f/x", ""), unlink("/"), unlink("x"),
		rename("/", "/n"), rename("/no", "/"), rename("/f/x", "//"), rename("/d", "/"),
		read("", 0, 1), read("/no", -1, 1), read("/no", 0, -1), read("/d", 0, 6145), read("/f/x", -1, -1), write("/no", -1, long), write("x", 7000, long), write("/d", -1, ""),
		truncate("/no", -1), truncate("//", 7000), readdir("x"), stat(""), api.Call{Op: 13, Path: "/no"}, api.Call{Path: "/no"}, api.Call{Op: -7, Path: "/f"})
	first(t, x, api.ErrSize, write("/no", 6145, ""), write("/f/x", 0, long), write("/d", 6144, "x"), write("/", 7000, ""), write("/f", 1, strings.Repeat("x", 6144)),
		truncate("/no", 6145), truncate("/d", 7000), truncate("/f/x", 1<<40))
	first(t, x, api.ErrNone, create("/no/x"), mkdir("/no/x/y"), link("/no", "/f"), link("/no", "/f/x"), unlink("/d/no"), rename("/no", "/d"), rename("/no", "/no/x"), read("/no", 0, 0), write("/no", 0, "x"), truncate("/no", 1), readdir("/no"), stat("/d/no/x"))
	first(t, x, api.ErrNotDir, create("/f/x"), mkdir("/f/x/y"), link("/f/x", "/d"), unlink("/f/x"), rename("/f/x", "/d"), rename("/d/g/x/y", "/no/x"), read("/f/x", 0, 0), write("/f/x", 0, "x"), truncate("/f/x", 1), readdir("/f/x"), stat("/f/x/y"), readdir("/f"))
}

// P16.3: of what holds of a name the first is told.
func TestFirstOfNames(t *testing.T) {
	x := made(t, baseNeeds, base...) // nothing is free
	first(t, x, api.ErrExist, create("/f"), create("/d"), mkdir("/f"), mkdir("/d/e"), link("/f", "/f"), link("/f", "/d"), link("/f", "/d/e/j"), rename("/f", "/f"), rename("/d", "/d"), rename("/d", "/d/e"), rename("/d", "/d/e/h"), rename("/f", "/d/e/j"))
	first(t, x, api.ErrFull, create("/n"), mkdir("/d/n"), create("/o/n"))
	first(t, x, api.ErrDir, link("/d", "/f"), link("/d", "/no/x"), link("/d", "/f/x"), link("/d/e", "/n"), read("/d", 0, 6144), write("/d", 6144, ""), truncate("/d", 6144), read("/", 0, 0), write("/", 0, "x"), truncate("/", 0))
	first(t, x, api.ErrNone, link("/f", "/no/x"), rename("/f", "/no/x"), rename("/d", "/d/no/x"))
	first(t, x, api.ErrNotDir, link("/f", "/f/x"), link("/f", "/t/x"), rename("/f", "/f/x"), rename("/f", "/t/x"), rename("/d", "/d/g/x"))
	first(t, x, api.ErrArg, rename("/d", "/d/n"), rename("/d", "/d/e/n"), rename("/d/e", "/d/e/n"), rename("/o", "/o/n"))
	first(t, x, api.ErrEmpty, unlink("/d"), unlink("/d/e"))
}
