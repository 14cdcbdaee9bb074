package cache_test

import (
	"math"
	"slices"
	"strings"
	"testing"

	"lockgate/api"
	"lockgate/cache"
)

// The chapter's examples.
func TestExamples(t *testing.T) {
	c := cache.New()
	if !c.Load(3, "a") {
		t.Error("Load(3, a): false")
	}
	c.Put(ch(3, "b"))
	knows(t, c, 3, "b")
	dirtyIs(t, "Put(3 b)", c, 0, 9, ch(3, "b"))
	number(t, "Clean(3 a)", c.Clean(ch(3, "a")), 0)
	number(t, "Clean(3 b)", c.Clean(ch(3, "b")), 1)
	dirtyIs(t, "Clean(3 b)", c, 0, 9)
	number(t, "Drop(3, 4)", c.Drop(3, 4), 0)
	knowsNot(t, c, 3)
}

// P18.1: a new cache knows nothing; nor does a zero one; both take up what they are told.
func TestNew(t *testing.T) {
	for _, c := range []*cache.Cache{cache.New(), {}} {
		knowsNot(t, c, far...)
		number(t, "Len", c.Len(), 0)
		number(t, "Clean of nothing", c.Clean(), 0)
		number(t, "Clean of what isn't known", c.Clean(ch(1, ""), ch(1, "a")), 0)
		number(t, "Drop", c.Drop(math.MinInt, math.MaxInt), 0)
		dirtyIs(t, "new", c, math.MinInt, math.MaxInt)
		c.Put()
		same(t, "behind these", c, &model{})
	}
	for _, act := range []func(c *cache.Cache){func(c *cache.Cache) { c.Load(7, "x") }, func(c *cache.Cache) { c.Put(ch(7, "x")) }} {
		var c cache.Cache
		act(&c)
		knows(t, &c, 7, "x")
		number(t, "Len", c.Len(), 1)
	}
	c, d := cache.New(), cache.New()
	c.Put(ch(1, "a"))
	knowsNot(t, d, 1)
}

// A nil cache: nothing, false, 0.
func TestNil(t *testing.T) {
	var c *cache.Cache
	c.Put()
	c.Put(ch(1, "a"), ch(2, "b"))
	if c.Load(1, "a") {
		t.Error("Load: true")
	}
	knowsNot(t, c, 1, 2, 0)
	dirtyIs(t, "nil", c, math.MinInt, math.MaxInt)
	number(t, "Clean", c.Clean(ch(1, "a")), 0)
	number(t, "Clean of nothing", c.Clean(), 0)
	number(t, "Drop", c.Drop(math.MinInt, math.MaxInt), 0)
	number(t, "Len", c.Len(), 0)
}

// P18.1: Get of sectors that were loaded, put, put anew and dropped, also below 0 and far off.
func TestGet(t *testing.T) {
	for _, sector := range append([]int{1, 2, 512}, far...) {
		c := cache.New()
		c.Load(sector, "loaded")
		knows(t, c, sector, "loaded")
		knowsNot(t, c, sector-1, sector+1, sector^1<<32)
		c.Put(ch(sector, "put"))
		knows(t, c, sector, "put")
		c.Put(ch(sector, "anew"), ch(sector-1, "other"))
		knows(t, c, sector, "anew")
		knows(t, c, sector-1, "other")
		c.Clean(ch(sector, "anew"))
		knows(t, c, sector, "anew")
		number(t, "Len", c.Len(), 2)
		if sector == math.MaxInt { // no Drop leads beyond it
			continue
		}
		number(t, "Drop", c.Drop(sector, sector+1), 0)
		knowsNot(t, c, sector)
		knows(t, c, sector-1, "other")
		if !c.Load(sector, "again") {
			t.Errorf("of %d nothing was known", sector)
		}
		knows(t, c, sector, "again")
	}
}

// P18.1: bytes are any text: none, a sector's, more.
func TestBytes(t *testing.T) {
	for _, s := range []string{"", "\x00", strings.Repeat("s", 512), strings.Repeat("s", 1<<20)} {
		c := cache.New()
		c.Load(1, s)
		c.Put(ch(2, s))
		knows(t, c, 1, s)
		knows(t, c, 2, s)
		if c.Load(1, "other") || c.Load(2, "other") {
			t.Errorf("Load over %.20q: true", s)
		}
		dirtyIs(t, "put", c, 0, 9, ch(2, s))
		number(t, "Clean with other bytes", c.Clean(ch(2, s+"x"), ch(2, "x"+s), ch(1, s)), 0)
		number(t, "Clean", c.Clean(ch(2, s)), 1)
		number(t, "Len", c.Len(), 2)
	}
}

// P18.1: Load where something is known, clean or dirty, with the same bytes or others: false, and nothing happens.
func TestLoad(t *testing.T) {
	c := cache.New()
	if !c.Load(5, "clean") || !c.Load(-5, "") {
		t.Error("Load of what isn't known: false")
	}
	c.Put(ch(6, "dirty"))
	c.Put(ch(7, "was"))
	c.Clean(ch(7, "was"))
	for _, x := range []api.Change{ch(5, "clean"), ch(5, "other"), ch(5, ""), ch(6, "dirty"), ch(6, "other"), ch(7, "was"), ch(7, "other"), ch(-5, ""), ch(-5, "other")} {
		if c.Load(x.Sector, x.S) {
			t.Errorf("Load(%d, %s): true", x.Sector, x.S)
		}
		knows(t, c, 5, "clean")
		knows(t, c, 6, "dirty")
		knows(t, c, 7, "was")
		knows(t, c, -5, "")
		dirtyIs(t, "Load", c, -9, 9, ch(6, "dirty"))
		number(t, "Len", c.Len(), 4)
	}
}

// P18.1: Put of no change, of one, of many, of one sector several times, of which the last one stays.
func TestPut(t *testing.T) {
	c := cache.New()
	c.Put()
	number(t, "Len", c.Len(), 0)
	c.Put(ch(4, "a"))
	number(t, "Len", c.Len(), 1)
	c.Put(ch(9, "b"), ch(-3, "c"), ch(4, "d"), ch(0, "e"))
	number(t, "Len", c.Len(), 4)
	dirtyIs(t, "many", c, -9, 10, ch(-3, "c"), ch(0, "e"), ch(4, "d"), ch(9, "b"))
	c.Put(ch(4, "1"), ch(4, "2"), ch(9, "3"), ch(4, "4"), ch(9, "5"), ch(9, "3"))
	dirtyIs(t, "several times", c, -9, 10, ch(-3, "c"), ch(0, "e"), ch(4, "4"), ch(9, "3"))
	var many []api.Change
	for i := range 70000 {
		many = append(many, ch((i*7919)%70000, "x"))
	}
	c.Put(many...)
	number(t, "Len", c.Len(), 70001)
	if l := c.Dirty(0, 70000); len(l) != 70000 || !slices.IsSortedFunc(l, func(a, b api.Change) int { return a.Sector - b.Sector }) {
		t.Errorf("%d are dirty, or in no order", len(l))
	}
}

// P18.2: Dirty tells those from from on up to to, not with it: at the edges of a sector, from and to the same, turned round.
func TestDirty(t *testing.T) {
	c := cache.New()
	c.Put(ch(10, "b"), ch(20, "c"), ch(0, "a"))
	c.Load(15, "clean")
	a, b, d := ch(0, "a"), ch(10, "b"), ch(20, "c")
	for _, x := range []struct {
		from, to int
		want     []api.Change
	}{
		{10, 11, []api.Change{b}}, {10, 10, nil}, {11, 10, nil}, {9, 10, nil}, {11, 12, nil}, {9, 11, []api.Change{b}}, {10, 20, []api.Change{b}}, {10, 21, []api.Change{b, d}}, {11, 20, nil}, {11, 21, []api.Change{d}},
		{0, 21, []api.Change{a, b, d}}, {1, 20, []api.Change{b}}, {0, 1, []api.Change{a}}, {-1, 0, nil}, {-1, 1, []api.Change{a}}, {20, 0, nil}, {math.MinInt, math.MaxInt, []api.Change{a, b, d}}, {math.MaxInt, math.MinInt, nil},
		{math.MinInt, 10, []api.Change{a}}, {10, math.MaxInt, []api.Change{b, d}}, {15, 16, nil}, {math.MinInt, math.MinInt, nil}, {math.MaxInt, math.MaxInt, nil}, {-5, 5, []api.Change{a}},
	} {
		dirtyIs(t, "Dirty", c, x.from, x.to, x.want...)
	}
	c = cache.New()
	for _, sector := range far {
		c.Put(ch(sector, "x"))
	}
	l := c.Dirty(math.MinInt, math.MaxInt)
	if len(l) != len(far)-1 || l[0].Sector != math.MinInt || l[len(l)-1].Sector != math.MaxInt-1 {
		t.Errorf("%d of %d are dirty ahead of the greatest one", len(l), len(far))
	}
}

// P18.2: Drop, likewise: how many were dirty, and of the sectors there nothing is known any more, of others all.
func TestDrop(t *testing.T) {
	for _, x := range []struct{ from, to, dirty, left int }{
		{10, 11, 1, 4}, {10, 10, 0, 5}, {11, 10, 0, 5}, {9, 10, 0, 5}, {11, 12, 0, 5}, {15, 16, 0, 4}, {10, 16, 1, 3}, {10, 20, 1, 3}, {10, 21, 2, 2}, {0, 21, 3, 1}, {1, 20, 1, 3}, {-2, 1, 1, 3}, {math.MinInt, math.MaxInt, 3, 0}, {math.MaxInt, math.MinInt, 0, 5}, {-1, 0, 0, 4}, {20, 0, 0, 5},
	} {
		c := cache.New()
		m := &model{}
		m.put(ch(10, "b"), ch(20, "c"), ch(0, "a"))
		c.Put(ch(10, "b"), ch(20, "c"), ch(0, "a"))
		m.load(15, "clean")
		m.load(-1, "")
		c.Load(15, "clean")
		c.Load(-1, "")
		number(t, "Drop", c.Drop(x.from, x.to), x.dirty)
		number(t, "Len", c.Len(), x.left)
		m.drop(x.from, x.to)
		same(t, "behind Drop", c, m)
		number(t, "Drop again", c.Drop(x.from, x.to), 0)
		same(t, "behind Drop again", c, m)
	}
}

// P18.2: Clean of no change, with just those bytes, with others, of sectors that are clean or not known, told twice.
func TestClean(t *testing.T) {
	c := cache.New()
	c.Put(ch(1, "a"), ch(2, "b"), ch(3, "c"))
	c.Load(4, "d")
	number(t, "none", c.Clean(), 0)
	number(t, "with others", c.Clean(ch(1, "b"), ch(2, ""), ch(3, "cc"), ch(-1, "a")), 0)
	number(t, "clean, or not known", c.Clean(ch(4, "d"), ch(4, ""), ch(5, ""), ch(5, "e")), 0)
	dirtyIs(t, "behind these", c, 0, 9, ch(1, "a"), ch(2, "b"), ch(3, "c"))
	number(t, "two of three", c.Clean(ch(3, "c"), ch(9, "c"), ch(1, "a"), ch(2, "a")), 2)
	dirtyIs(t, "behind these", c, 0, 9, ch(2, "b"))
	number(t, "told twice", c.Clean(ch(2, "x"), ch(2, "b"), ch(2, "b")), 1)
	dirtyIs(t, "all are clean", c, 0, 9)
	number(t, "once more", c.Clean(ch(2, "b")), 0)
	number(t, "Len", c.Len(), 4)
	for sector, s := range []string{1: "a", 2: "b", 3: "c", 4: "d"} {
		if sector > 0 {
			knows(t, c, sector, s)
		}
	}
	knowsNot(t, c, 5, 9, -1)
}

// P18.1 and P18.3: what is clean is dirty again when it is put anew, also with the same bytes; what was put anew since isn't clean by what was put ahead.
func TestAnew(t *testing.T) {
	c := cache.New()
	c.Load(1, "a")
	c.Put(ch(1, "a"))
	dirtyIs(t, "put as it was loaded", c, 0, 9, ch(1, "a"))
	number(t, "Clean", c.Clean(ch(1, "a")), 1)
	c.Put(ch(1, "a"))
	dirtyIs(t, "put as it was", c, 0, 9, ch(1, "a"))
	c.Put(ch(1, "b"))
	number(t, "Clean of elder bytes", c.Clean(ch(1, "a")), 0)
	dirtyIs(t, "still", c, 0, 9, ch(1, "b"))
	c.Put(ch(1, "a"))
	number(t, "Clean", c.Clean(ch(1, "b"), ch(1, "a")), 1)
	c.Drop(1, 2)
	number(t, "Clean of what was dropped", c.Clean(ch(1, "a")), 0)
	knowsNot(t, c, 1)
}

// R3: what is told is kept apart from what is done later, and what is handed in stays as it is.
func TestMemory(t *testing.T) {
	c := cache.New()
	handed := append(make([]api.Change, 0, 8), ch(3, "c"), ch(1, "a"), ch(2, "b"))
	copy(handed[3:8], []api.Change{ch(4, "x"), ch(5, "y"), ch(6, "z")})
	was := slices.Clone(handed[:8])
	c.Put(handed...)
	l := c.Dirty(0, 9)
	told := slices.Clone(l)
	if !slices.Equal(handed[:8], was) {
		t.Errorf("what was handed in is %v", handed[:8])
	}
	clear(handed)
	dirtyIs(t, "behind that", c, 0, 9, ch(1, "a"), ch(2, "b"), ch(3, "c"))
	c.Put(ch(1, "other"))
	c.Clean(ch(2, "b"))
	c.Drop(3, 4)
	if !slices.Equal(l, told) {
		t.Errorf("what was told is %v", l)
	}
	clear(l[:cap(l)])
	dirtyIs(t, "and that", c, 0, 9, ch(1, "other"))
	clean := append(make([]api.Change, 0, 4), ch(1, "other"), ch(7, ""))
	number(t, "Clean", c.Clean(clean...), 1)
	if !slices.Equal(clean[:4], []api.Change{ch(1, "other"), ch(7, ""), {}, {}}) {
		t.Errorf("what was handed in is %v", clean)
	}
}

// P18.1 to P18.3: drawn plays of calls, against the chapter's words done over in another way.
func TestPlays(t *testing.T) {
	d := draws(18)
	sector := func() int {
		if d.below(12) == 0 {
			return far[d.below(len(far))]
		}
		return d.below(9) - 2
	}
	change := func() api.Change { return ch(sector(), []string{"", "a", "b", "c"}[d.below(4)]) }
	some := func() []api.Change {
		var l []api.Change
		for range d.below(4) {
			l = append(l, change())
		}
		return l
	}
	for range 1500 {
		c, m := cache.New(), &model{}
		for range 40 {
			from, to := sector(), sector()
			what := ""
			switch d.below(8) {
			case 0, 1:
				x := change()
				what = "Load"
				if c.Load(x.Sector, x.S) != m.load(x.Sector, x.S) {
					t.Fatalf("Load(%d)", x.Sector)
				}
			case 2, 3:
				l := some()
				what = "Put"
				c.Put(l...)
				m.put(l...)
			case 4:
				l := some()
				what = "Clean"
				number(t, what, c.Clean(l...), m.clean(l...))
			case 5:
				l := append(m.dirty(from, to), some()...)
				what = "Clean of dirty ones"
				number(t, what, c.Clean(l...), m.clean(l...))
			case 6:
				what = "Dirty"
				dirtyIs(t, what, c, from, to, m.dirty(from, to)...)
			case 7:
				what = "Drop"
				if d.below(3) > 0 {
					from, to = d.below(7)-2, d.below(9)-2
				}
				number(t, what, c.Drop(from, to), m.drop(from, to))
			}
			same(t, what, c, m)
		}
	}
}
