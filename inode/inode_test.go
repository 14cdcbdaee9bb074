package inode_test

import (
	"math"
	"slices"
	"strings"
	"testing"

	"lockgate/api"
	"lockgate/inode"
)

// P14.1: New of each kind, and of kinds that there aren't, which Check then finds.
func TestNew(t *testing.T) {
	for _, kind := range append([]int{0, 1, 2, 3, 4, 255, 256, 257, 258}, far...) {
		n := inode.New(kind)
		if want := (api.Inode{Kind: kind, Links: 1}); !same(n, want) {
			t.Errorf("New(%d): %v", kind, n)
		}
		if e := inode.Check(n); (e == api.OK) != (kind == 1 || kind == 2) {
			t.Errorf("Check of New(%d): %d", kind, e)
		}
	}
}

// checks fails the test, if Check doesn't tell what the chapter's words tell.
func checks(t *testing.T, what string, n api.Inode) {
	t.Helper()
	want := api.ErrArg
	if mayBe(n) {
		want = api.OK
	}
	if e := inode.Check(n); e != want {
		t.Errorf("Check, %s, of %v: %d, not %d", what, n, e, want)
	}
}

// says fails the test, if Check, and with it Bytes, doesn't tell just that.
func says(t *testing.T, what string, n api.Inode, want api.Errno) {
	t.Helper()
	if e := inode.Check(n); e != want {
		t.Errorf("Check, %s, of %v: %d, not %d", what, n, e, want)
	}
	s, e := inode.Bytes(n)
	if e != want || want != api.OK && s != "" {
		t.Errorf("Bytes, %s, of %v: %x, %d, not %d", what, n, s, e, want)
	}
}

// P14.1: kinds.
func TestCheckKinds(t *testing.T) {
	for _, size := range []int{0, 1, 6144} {
		n := file(1, size)
		says(t, "a file", n, api.OK)
		n.Kind = 2
		says(t, "a folder", n, api.OK)
		for _, kind := range append([]int{0, 3, 4, 255, 256, 257, 258, 65537}, far...) {
			n.Kind = kind
			says(t, "of another kind", n, api.ErrArg)
		}
	}
	says(t, "zero", api.Inode{}, api.ErrArg)
}

// P14.1: how many names.
func TestCheckLinks(t *testing.T) {
	for _, links := range []int{1, 2, 3, 255, 256, 999, 1000} {
		says(t, "a file's names", file(links, 700), api.OK)
		n := folder(700)
		if n.Links = links; links > 1 {
			says(t, "a folder's names", n, api.ErrArg)
		}
	}
	says(t, "a folder's name", folder(700), api.OK)
	for _, links := range append([]int{0, 1001, 1002, 2000, 65535}, far...) {
		says(t, "too many names, or too few", file(links, 700), api.ErrArg)
		n := folder(700)
		n.Links = links
		says(t, "too many names, or too few, of a folder", n, api.ErrArg)
	}
}

// P14.1: sizes, with as many sectors as they need, one more and one less, and with other numbers of them.
func TestCheckSizes(t *testing.T) {
	for size := -3; size <= 6200; size++ {
		for _, more := range []int{-1, 0, 1} {
			if n := needs(size) + more; n >= 0 {
				checks(t, "of this size", api.Inode{Kind: 1 + n%2, Links: 1, Size: size, Data: rising(9, n)})
			}
		}
	}
	for _, size := range []int{0, 1, 512, 513, 6144} {
		says(t, "of a right size", file(3, size), api.OK)
		for n := range 30 {
			checks(t, "of so many sectors", api.Inode{Kind: 1, Links: 1, Size: size, Data: rising(9, n)})
		}
		says(t, "of far too many sectors", api.Inode{Kind: 1, Links: 1, Size: size, Data: rising(9, 50000)}, api.ErrArg)
	}
	says(t, "too great", file(3, 6145), api.ErrArg)
	says(t, "too great, of as many sectors as the greatest", api.Inode{Kind: 1, Links: 3, Size: 6145, Data: rising(9, 12)}, api.ErrArg)
	for _, size := range far {
		for _, n := range []int{0, 1, 12, 13} {
			says(t, "of a wrong size", api.Inode{Kind: 1, Links: 1, Size: size, Data: rising(9, n)}, api.ErrArg)
			says(t, "of a wrong size", api.Inode{Kind: 2, Links: 1, Size: size, Data: rising(9, n)}, api.ErrArg)
		}
	}
}

// P14.1: numbers of sectors at the edges and beyond, at each place.
func TestCheckNumbers(t *testing.T) {
	for _, size := range []int{1, 512, 513, 1024, 1536, 6144} {
		for i := range needs(size) {
			for _, kind := range []int{1, 2} {
				n := api.Inode{Kind: kind, Links: 1, Size: size, Data: rising(300, needs(size))}
				for _, sector := range []int{0, 1, 255, 256, 65534, 65535} {
					n.Data[i] = sector
					says(t, "a right number", n, api.OK)
				}
				for _, sector := range far {
					n.Data[i] = sector
					says(t, "a wrong number", n, api.ErrArg)
				}
			}
		}
	}
}

// P14.1: the same number twice, at each two places, whatever it is.
func TestCheckSameNumbers(t *testing.T) {
	for _, count := range []int{2, 3, 12} {
		for _, sector := range []int{0, 7, 300, 65535} {
			for i := range count {
				for j := range i {
					n := api.Inode{Kind: 1, Links: 1, Size: 512 * count, Data: rising(1000, count)}
					n.Data[i] = sector
					says(t, "no number twice", n, api.OK)
					n.Data[j] = sector
					says(t, "a number twice", n, api.ErrArg)
					n.Kind = 2
					says(t, "a number twice, of a folder", n, api.ErrArg)
				}
			}
			says(t, "all the same", api.Inode{Kind: 1, Links: 1, Size: 512 * count, Data: slices.Repeat([]int{sector}, count)}, api.ErrArg)
		}
	}
}

// P14.1: what may be and what may not, thing by thing, with each other.
func TestCheckOfAll(t *testing.T) {
	for kind := -1; kind <= 4; kind++ {
		for _, links := range []int{-1, 0, 1, 2, 1000, 1001} {
			for _, size := range []int{-1, 0, 1, 512, 513, 1024, 1025, 6144, 6145} {
				for _, data := range [][]int{nil, {}, {0}, {65535}, {65536}, {-1}, {5, 6}, {6, 5}, {5, 5}, {5, 65536}, {-1, 5}, {5, 6, 7}, {5, 6, 5}, rising(5, 12), append(rising(5, 11), 5), rising(5, 13)} {
					checks(t, "of all", api.Inode{Kind: kind, Links: links, Size: size, Data: data})
				}
			}
		}
	}
}

// reads fails the test, if Read doesn't tell just that inode.
func reads(t *testing.T, what, s string, want api.Inode) {
	t.Helper()
	if n, e := inode.Read(s); !same(n, want) || e != api.OK {
		t.Errorf("Read, %s, of %x: %v, %d, not %v", what, s, n, e, want)
	}
}

// readsNone fails the test, if Read doesn't tell just ErrForm.
func readsNone(t *testing.T, what, s string) {
	t.Helper()
	if n, e := inode.Read(s); !same(n, api.Inode{}) || e != api.ErrForm {
		t.Errorf("Read, %s, of %d bytes %x: %v, %d", what, len(s), s[:min(len(s), 70)], n, e)
	}
}

// P14.2: inodes' bytes, by number, and those of others, which are read again.
func TestBytes(t *testing.T) {
	for s, n := range map[string]api.Inode{
		"LGI1\x00\x01\x00\x01\x00\x00\x00\x00":                                 {Kind: 1, Links: 1},
		"LGI1\x00\x02\x00\x01\x00\x00\x00\x07\x00\x00\x00\xb4":                 {Kind: 2, Links: 1, Size: 7, Data: []int{180}},
		"LGI1\x00\x01\x03\xe8\x00\x00\x02\x01\x00\x00\xff\xff\x00\x00\x01\x02": {Kind: 1, Links: 1000, Size: 513, Data: []int{65535, 258}},
	} {
		if got, e := inode.Bytes(n); got != s || e != api.OK {
			t.Errorf("Bytes(%v): %x, %d, not %x", n, got, e, s)
		}
		reads(t, "what is written", s, n)
	}
	for _, n := range right() {
		if got, e := inode.Bytes(n); got != written(n) || e != api.OK {
			t.Errorf("Bytes(%v): %x, %d", n, got, e)
		}
		reads(t, "what was written", written(n), n)
	}
}

// P14.2: drawn inodes are read as they were.
func TestBytesDrawn(t *testing.T) {
	d := draws(1)
	for range 3000 {
		n := d.inode()
		s, e := inode.Bytes(n)
		if s != written(n) || e != api.OK {
			t.Fatalf("Bytes(%v): %x, %d", n, s, e)
		}
		reads(t, "drawn", s, n)
	}
}

// P14.2: texts that are too short or too long.
func TestReadCut(t *testing.T) {
	for _, n := range right() {
		s := written(n)
		for i := range s {
			readsNone(t, "cut short", s[:i])
			readsNone(t, "cut short ahead", s[i+1:])
		}
		for _, more := range []string{"\x00", "\x00\x00\x00", "\x00\x00\x00\x09", "\x00\x00\x00\x00\x00\x00\x00\x00", s, strings.Repeat("\x00", 500)} {
			readsNone(t, "with more behind", s+more)
			readsNone(t, "with more ahead", more+s)
		}
	}
	readsNone(t, "long", strings.Repeat("\x00", 1<<20))
	readsNone(t, "long, with a sign", "LGI1\x00\x01\x00\x01\xff\xff\xff\xff"+strings.Repeat("\x00", 1<<20))
}

// P14.2: texts of which a byte is turned, to each other one: another inode's, or none's.
func TestReadTurned(t *testing.T) {
	others := 0
	for _, n := range []api.Inode{file(1, 0), file(3, 7), folder(600), file(1000, 6144), {Kind: 2, Links: 1, Size: 1024, Data: []int{0, 65535}}} {
		s := written(n)
		for i := range len(s) {
			for x := range 256 {
				now := s[:i] + string([]byte{byte(x)}) + s[i+1:]
				if want, ok := readAs(now); ok {
					others++
					reads(t, "turned", now, want)
				} else {
					readsNone(t, "turned", now)
				}
			}
		}
	}
	if others < 1000 {
		t.Errorf("just %d were inodes", others)
	}
}

// P14.2: what may not be, written all the same: numbers beyond, the same ones twice, and sizes with too many sectors or too few.
func TestReadOfNone(t *testing.T) {
	for _, n := range []api.Inode{
		{Kind: 0, Links: 1}, {Kind: 3, Links: 1}, {Kind: 257, Links: 1}, {Kind: 65535, Links: 1}, {Kind: 1, Links: 0}, {Kind: 1, Links: 1001}, {Kind: 1, Links: 65535}, {Kind: 2, Links: 0}, {Kind: 2, Links: 2}, {Kind: 2, Links: 1000},
		{Kind: 1, Links: 1, Size: 6145, Data: rising(9, 12)}, {Kind: 1, Links: 1, Size: 6145, Data: rising(9, 13)}, {Kind: 1, Links: 1, Size: 1 << 16, Data: rising(9, 128)}, {Kind: 1, Links: 1, Size: 1 << 31, Data: rising(9, 12)}, {Kind: 1, Links: 1, Size: 1<<32 - 1}, {Kind: 1, Links: 1, Size: 1<<32 - 1, Data: rising(9, 12)},
		{Kind: 1, Links: 1, Size: 0, Data: rising(9, 1)}, {Kind: 1, Links: 1, Size: 1}, {Kind: 1, Links: 1, Size: 512, Data: rising(9, 2)}, {Kind: 1, Links: 1, Size: 513, Data: rising(9, 1)}, {Kind: 1, Links: 1, Size: 6144, Data: rising(9, 11)}, {Kind: 1, Links: 1, Size: 6144, Data: rising(9, 13)},
		{Kind: 1, Links: 1, Size: 1, Data: []int{65536}}, {Kind: 1, Links: 1, Size: 1, Data: []int{1 << 31}}, {Kind: 1, Links: 1, Size: 1, Data: []int{1<<32 - 1}}, {Kind: 1, Links: 1, Size: 1024, Data: []int{9, 9}}, {Kind: 2, Links: 1, Size: 1024, Data: []int{0, 0}}, {Kind: 1, Links: 1, Size: 6144, Data: append(rising(9, 11), 9)}, {Kind: 1, Links: 1, Size: 1536, Data: []int{65535, 7, 65535}},
	} {
		readsNone(t, "of what may not be", written(n))
	}
	for _, sign := range []string{"LGI0", "LGI2", "lgi1", "LGS1", "LGH1", "LGD1", "LGC1", "1IGL", "\x00\x00\x00\x00"} {
		readsNone(t, "of another sign", sign+written(file(1, 7))[4:])
		readsNone(t, "of another sign", sign+written(folder(0))[4:])
	}
}

// R3: what is handed in stays as it was, up to its capacity, and what is told is its owner's.
func TestMemory(t *testing.T) {
	data := append(make([]int, 0, 30), 12, 3, 9)
	was := slices.Clone(data[:cap(data)])
	n := api.Inode{Kind: 1, Links: 1, Size: 1400, Data: data}
	for range 2 {
		says(t, "what may be", n, api.OK)
		if !slices.Equal(data[:cap(data)], was) {
			t.Fatal("what was handed in is changed")
		}
	}
	s, _ := inode.Bytes(n)
	data[1] = 12
	says(t, "changed by its owner", n, api.ErrArg)
	want := api.Inode{Kind: 1, Links: 1, Size: 1400, Data: []int{12, 3, 9}}
	a, _ := inode.Read(s)
	b, _ := inode.Read(s)
	for i := range a.Data[:cap(a.Data)] {
		a.Data[:cap(a.Data)][i] = 77
	}
	if !same(b, want) {
		t.Errorf("another one's numbers are %v", b.Data)
	}
	reads(t, "once more", s, want)
	p, q := inode.Pieces(0, 2000), inode.Pieces(0, 2000)
	c, d := inode.Cut(s+s), inode.Cut(s+s)
	clear(p[:cap(p)])
	clear(c[:cap(c)])
	if !slices.Equal(q, inode.Pieces(0, 2000)) || len(q) != 4 || !slices.Equal(d, inode.Cut(s+s)) || len(d) != 1 || d[0] == "" {
		t.Error("what was told hangs on another answer")
	}
	if m := inode.New(math.MaxInt); m.Data != nil && cap(m.Data) > 0 {
		t.Error("a new inode has room for numbers")
	}
}
