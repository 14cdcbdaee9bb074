package tree_test

import (
	"math"
	"strings"
	"testing"

	"lockgate/api"
	"lockgate/tree"
)

// has looks which bytes a file has.
func has(t *testing.T, what string, x *tree.Tree, path, want string) {
	t.Helper()
	if r := x.Do(read(path, 0, 6144)); !equal(r, api.Reply{Data: want}) {
		t.Errorf("%s: %s, want %d bytes %.60q", what, short(r), len(want), want)
	}
	statOf(t, x, path, api.File, 1, len(want))
}

// mixed are n bytes, of all values.
func mixed(n int) string {
	b := make([]byte, n)
	for i := range b {
		b[i] = byte(i*7 + i/256 + 1)
	}
	return string(b)
}

// edges are places at which something ends or begins.
var edges = []int{0, 1, 2, 510, 511, 512, 513, 1023, 1024, 1025, 5631, 5632, 5633, 6142, 6143, 6144}

// P16.4: OpRead tells the bytes that are there, of those that were asked for.
func TestRead(t *testing.T) {
	for _, size := range edges {
		data := mixed(size)
		x := made(t, 50, create("/f"), write("/f", 0, data))
		for _, at := range append([]int{6145, 7000, 1 << 32, math.MaxInt - 6144, math.MaxInt - 1, math.MaxInt}, edges...) {
			for _, n := range edges {
				var want []byte
				for i := at; i < size && i-at < n; i++ {
					want = append(want, data[i])
				}
				if r := x.Do(read("/f", at, n)); !equal(r, api.Reply{Data: string(want)}) {
					t.Fatalf("%d bytes from %d of %d: %s", n, at, size, short(r))
				}
			}
		}
		has(t, "behind reads", x, "/f", data)
	}
}

// P16.4: OpWrite puts bytes where they belong, and bytes 0 between.
func TestWrite(t *testing.T) {
	for _, size := range edges {
		for _, at := range edges {
			for _, n := range []int{0, 1, 2, 511, 512, 513, 1024, 6143, 6144} {
				if at+n > 6144 {
					continue
				}
				old, data := mixed(size), strings.Repeat("w", n)
				x := made(t, 50, create("/f"), write("/f", 0, old), write("/f", at, data))
				want := old + strings.Repeat("\x00", 6144-size)
				want = want[:at] + data + want[at+n:]
				has(t, "written", x, "/f", want[:max(size, at+n)])
				free(t, "written", x, 50-2-need(max(size, at+n)))
			}
		}
	}
}

// P16.2: OpWrite beyond MaxSize: ErrSize, wherever it begins, and nothing is done.
func TestWriteTooMany(t *testing.T) {
	x := made(t, 50, create("/f"), write("/f", 0, "abc"))
	first(t, x, api.ErrSize, write("/f", 0, mixed(6145)), write("/f", 1, mixed(6144)), write("/f", 6143, "ab"), write("/f", 6144, "a"), write("/f", 6145, ""), write("/f", 6145, "a"),
		write("/f", 1<<32, ""), write("/f", math.MaxInt, ""), write("/f", math.MaxInt, "a"), write("/f", math.MaxInt-1, mixed(6144)), write("/f", 0, mixed(100000)))
	has(t, "behind these", x, "/f", "abc")
	told(t, x, []api.Call{write("/f", 6144, ""), write("/f", 6143, "z"), write("/f", 0, mixed(6144))}, api.OK, api.OK, api.OK)
	has(t, "at the end", x, "/f", mixed(6144))
}

// P16.4: OpTruncate cuts off, and puts bytes 0.
func TestTruncate(t *testing.T) {
	for _, size := range edges {
		for _, n := range edges {
			x := made(t, 50, create("/f"), write("/f", 0, mixed(size)), truncate("/f", n))
			has(t, "cut", x, "/f", (mixed(size) + strings.Repeat("\x00", 6144))[:n])
			free(t, "cut", x, 50-2-need(n))
			// What was cut off doesn't come again.
			told(t, x, []api.Call{truncate("/f", 6144)}, api.OK)
			has(t, "and again", x, "/f", (mixed(size)[:min(n, size)] + strings.Repeat("\x00", 6144))[:6144])
		}
	}
}

// P16.4: just as many sectors free as are needed more, and one fewer.
func TestRoomForBytes(t *testing.T) {
	for _, size := range edges {
		for _, now := range edges {
			more := need(now) - need(size)
			for _, room := range []int{more - 1, more, 0} {
				if room < 0 || now < size && room != 0 {
					continue
				}
				want := api.OK
				if more > room {
					want = api.ErrFull
				}
				x := made(t, 2+need(size)+room, create("/f"), truncate("/f", size))
				free(t, "ahead", x, room)
				calls := []api.Call{truncate("/f", now), write("/f", now, "")}
				if now > 0 {
					calls = append(calls, write("/f", now-1, "x"), write("/f", 0, mixed(now)), write("/f", now/2, mixed(now-now/2)))
				}
				for i, c := range calls {
					y := x.Copy()
					told(t, y, []api.Call{c}, want)
					is := now
					if i > 0 { // OpWrite cuts nothing off
						is = max(now, size)
					}
					if want != api.OK {
						is = size
					}
					statOf(t, y, "/f", api.File, 1, is)
					free(t, "behind", y, room-need(is)+need(size))
				}
			}
		}
	}
}

// P16.4: a file that needs no more sectors is written also if nothing is free.
func TestFullButFits(t *testing.T) {
	x := made(t, 4, create("/f"), write("/f", 0, "x"), create("/j")) // both of zone 2
	told(t, x, []api.Call{write("/f", 511, "y"), write("/f", 100, mixed(412)), truncate("/f", 512), write("/f", 512, "z"), truncate("/f", 513), write("/f", 512, ""), truncate("/f", 3)},
		api.OK, api.OK, api.OK, api.ErrFull, api.ErrFull, api.OK, api.OK)
	free(t, "at the end", x, 0)
}

// P16.4: a file has the same bytes by each of its names.
func TestBytesOfAllNames(t *testing.T) {
	x := made(t, 50, create("/f"), mkdir("/d"), link("/f", "/d/g"), write("/d/g", 2, "ab"), link("/d/g", "/h"), write("/f", 0, "x"), rename("/h", "/d/h"), truncate("/d/h", 3))
	for _, path := range []string{"/f", "/d/g", "/d/h"} {
		if r := x.Do(read(path, 0, 9)); r.Data != "x\x00a" {
			t.Errorf("%s: %q", path, r.Data)
		}
		statOf(t, x, path, api.File, 3, 3)
	}
}
