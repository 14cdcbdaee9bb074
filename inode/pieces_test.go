package inode_test

import (
	"math"
	"slices"
	"strings"
	"testing"

	"lockgate/api"
	"lockgate/inode"
)

// The chapter's examples.
func TestExamples(t *testing.T) {
	if a, b := inode.Need(512), inode.Need(513); a != 1 || b != 2 {
		t.Errorf("Need(512), Need(513): %d, %d", a, b)
	}
	if got := inode.Pieces(510, 514); !slices.Equal(got, []api.Piece{{Index: 0, From: 510, To: 512}, {Index: 1, From: 0, To: 2}}) {
		t.Errorf("Pieces(510, 514): %v", got)
	}
}

// P14.3: how many sectors bytes need: none, few, counted one by one, and many, up to 2^50 and beyond.
func TestNeed(t *testing.T) {
	for size := -2000; size <= 20000; size++ {
		if got := inode.Need(size); got != needs(size) {
			t.Fatalf("Need(%d): %d, not %d", size, got, needs(size))
		}
	}
	for _, w := range [][2]int{
		{-1 << 40, 0}, {math.MinInt, 0}, {math.MinInt + 1, 0}, {1 << 31, 1 << 22}, {1<<31 + 1, 1<<22 + 1}, {1 << 40, 1 << 31}, {1<<40 - 1, 1 << 31}, {1<<40 + 1, 1<<31 + 1},
		{1<<59 - 512, 1<<50 - 1}, {1<<59 - 511, 1 << 50}, {1<<59 - 1, 1 << 50}, {1 << 59, 1 << 50}, {1<<59 + 1, 1 << 50}, {1<<59 + 513, 1 << 50}, {1 << 60, 1 << 50}, {1 << 62, 1 << 50},
		{math.MaxInt - 512, 1 << 50}, {math.MaxInt - 511, 1 << 50}, {math.MaxInt - 510, 1 << 50}, {math.MaxInt - 1, 1 << 50}, {math.MaxInt, 1 << 50},
	} {
		if got := inode.Need(w[0]); got != w[1] {
			t.Errorf("Need(%d): %d, not %d", w[0], got, w[1])
		}
	}
}

// piecesOf are a range's pieces by the chapter's words: each byte is put to the piece of its sector.
func piecesOf(from, to int) []api.Piece {
	if from < 0 {
		from = 0
	}
	if to > 6144 {
		to = 6144
	}
	var l []api.Piece
	for b := from; b < to; b++ {
		if len(l) == 0 || l[len(l)-1].Index != b/512 {
			l = append(l, api.Piece{Index: b / 512, From: b % 512})
		}
		l[len(l)-1].To = b%512 + 1
	}
	return l
}

// parts fails the test, if Pieces doesn't tell just these.
func parts(t *testing.T, from, to int, want []api.Piece) {
	t.Helper()
	if got := inode.Pieces(from, to); !slices.Equal(got, want) {
		t.Fatalf("Pieces(%d, %d): %v, not %v", from, to, got, want)
	}
}

// P14.3: ranges within a sector, over edges, and of whole sectors, by number.
func TestPieces(t *testing.T) {
	for _, w := range []struct {
		from, to int
		want     []api.Piece
	}{
		{0, 1, []api.Piece{{Index: 0, From: 0, To: 1}}},
		{5, 9, []api.Piece{{Index: 0, From: 5, To: 9}}},
		{0, 512, []api.Piece{{Index: 0, From: 0, To: 512}}},
		{511, 512, []api.Piece{{Index: 0, From: 511, To: 512}}},
		{511, 513, []api.Piece{{Index: 0, From: 511, To: 512}, {Index: 1, From: 0, To: 1}}},
		{512, 513, []api.Piece{{Index: 1, From: 0, To: 1}}},
		{600, 1000, []api.Piece{{Index: 1, From: 88, To: 488}}},
		{512, 1536, []api.Piece{{Index: 1, From: 0, To: 512}, {Index: 2, From: 0, To: 512}}},
		{500, 1600, []api.Piece{{Index: 0, From: 500, To: 512}, {Index: 1, From: 0, To: 512}, {Index: 2, From: 0, To: 512}, {Index: 3, From: 0, To: 64}}},
		{5632, 6144, []api.Piece{{Index: 11, From: 0, To: 512}}},
		{6143, 6144, []api.Piece{{Index: 11, From: 511, To: 512}}},
		{6143, 6145, []api.Piece{{Index: 11, From: 511, To: 512}}},
		{6143, math.MaxInt, []api.Piece{{Index: 11, From: 511, To: 512}}},
		{-9, 3, []api.Piece{{Index: 0, From: 0, To: 3}}},
		{math.MinInt, 3, []api.Piece{{Index: 0, From: 0, To: 3}}},
	} {
		parts(t, w.from, w.to, w.want)
	}
	var all []api.Piece
	for i := range 12 {
		all = append(all, api.Piece{Index: i, From: 0, To: 512})
	}
	for _, from := range []int{0, -1, -512, -6144, math.MinInt} {
		for _, to := range []int{6144, 6145, 6656, 1 << 40, math.MaxInt} {
			parts(t, from, to, all)
		}
	}
}

// P14.3: ranges that are empty, turned round, or lie below 0 or beyond the greatest size: none has a piece.
func TestPiecesOfNothing(t *testing.T) {
	places := []int{math.MinInt, math.MinInt + 1, -1 << 40, -6144, -513, -512, -1, 0, 1, 5, 510, 511, 512, 513, 1024, 3000, 5632, 6143, 6144, 6145, 6656, 1 << 40, math.MaxInt - 1, math.MaxInt}
	for i, from := range places {
		for _, to := range places[:i+1] {
			parts(t, from, to, nil)
		}
	}
	for _, to := range places {
		if to <= 0 {
			parts(t, 0, to, nil)
			parts(t, math.MinInt, to, nil)
		}
		for _, from := range []int{6144, 6145, math.MaxInt} {
			parts(t, from, to, nil)
		}
	}
}

// P14.3: all ranges with an end near a sector's edge, held against the chapter's words.
func TestPiecesNearEdges(t *testing.T) {
	var near []int
	for edge := -512; edge <= 6656; edge += 512 {
		near = append(near, edge-2, edge-1, edge, edge+1, edge+2, edge+200)
	}
	for _, from := range near {
		for _, to := range near {
			parts(t, from, to, piecesOf(from, to))
		}
	}
}

// P14.3: texts cut into sectors: the last one is filled up, and none is empty.
func TestCut(t *testing.T) {
	for _, n := range []int{0, 1, 2, 510, 511, 512, 513, 514, 1023, 1024, 1025, 6143, 6144, 6145, 65536, 70001} {
		for _, x := range []string{"\x00", "x", "\xff"} {
			got := inode.Cut(strings.Repeat(x, n))
			if len(got) != (n+511)/512 {
				t.Fatalf("Cut of %d bytes: %d sectors", n, len(got))
			}
			for i, s := range got {
				there := min(n-512*i, 512)
				if s != strings.Repeat(x, there)+strings.Repeat("\x00", 512-there) {
					t.Errorf("Cut of %d bytes: sector %d has %d bytes", n, i, len(s))
				}
			}
		}
	}
	if got := inode.Cut(strings.Repeat("a", 512) + "bc"); !slices.Equal(got, []string{strings.Repeat("a", 512), "bc" + strings.Repeat("\x00", 510)}) {
		t.Errorf("Cut of a and bc: %q", got)
	}
}

// P14.4: what Cut tells, put together and cut off, is the text; each sector is whole, and there are as many as Need says.
func TestCutIsPutTogether(t *testing.T) {
	d := draws(2)
	for range 1500 {
		s := d.text(d.below([]int{20, 1100, 7000}[d.below(3)]))
		got := inode.Cut(s)
		all := strings.Join(got, "")
		if len(got) != inode.Need(len(s)) || all[:len(s)] != s || strings.Trim(all[len(s):], "\x00") != "" {
			t.Fatalf("Cut of %d bytes: %d sectors of %d bytes", len(s), len(got), len(all))
		}
		for _, sector := range got {
			if len(sector) != 512 {
				t.Fatalf("Cut of %d bytes: a sector of %d", len(s), len(sector))
			}
		}
	}
}

// P14.4: the pieces of a drawn range, one behind the other, are just its bytes, as they lie in what Cut tells of a text; none is empty.
func TestPiecesAreTheRange(t *testing.T) {
	d := draws(3)
	for range 4000 {
		s := d.text(6144)[:1+d.below(6144)]
		sectors := inode.Cut(s)
		from, to := d.below(len(s)+1), d.below(len(s)+1)
		got, last := "", -1
		for _, p := range inode.Pieces(from, to) {
			if p.From >= p.To || p.From < 0 || p.To > 512 || p.Index <= last {
				t.Fatalf("Pieces(%d, %d) has %v", from, to, p)
			}
			last = p.Index
			got += sectors[p.Index][p.From:p.To]
		}
		if want := s[from:max(from, to)]; got != want {
			t.Fatalf("Pieces(%d, %d) has %d bytes, not %d", from, to, len(got), len(want))
		}
		parts(t, from, to, piecesOf(from, to))
	}
}
