package cache_test

import (
	"fmt"
	"math"
	"slices"
	"testing"

	"lockgate/api"
	"lockgate/cache"
)

// told is something that a cache was told: what lies in a sector, or is to lie there.
type told struct {
	api.Change
	dirty bool
}

// model is a cache kept in another way: a row of what it was told, of which the last one of a sector counts.
type model struct{ row []told }

// at is the place in the row of what is known of a sector; -1, if nothing is.
func (m *model) at(sector int) int {
	for i := len(m.row) - 1; i >= 0; i-- {
		if m.row[i].Sector == sector {
			return i
		}
	}
	return -1
}

func (m *model) get(sector int) (string, bool) {
	i := m.at(sector)
	if i < 0 {
		return "", false
	}
	return m.row[i].S, true
}

func (m *model) load(sector int, s string) bool {
	if m.at(sector) >= 0 {
		return false
	}
	m.row = append(m.row, told{api.Change{Sector: sector, S: s}, false})
	return true
}

func (m *model) put(l ...api.Change) {
	for _, x := range l {
		m.row = append(m.row, told{x, true})
	}
}

// last are the ones that count, by rising sectors.
func (m *model) last() []told {
	var l []told
	for i, x := range m.row {
		if m.at(x.Sector) == i {
			l = append(l, x)
		}
	}
	slices.SortFunc(l, func(a, b told) int {
		if a.Sector < b.Sector {
			return -1
		}
		return 1
	})
	return l
}

func (m *model) dirty(from, to int) []api.Change {
	var l []api.Change
	for _, x := range m.last() {
		if x.dirty && x.Sector >= from && x.Sector < to {
			l = append(l, x.Change)
		}
	}
	return l
}

func (m *model) clean(l ...api.Change) int {
	n := 0
	for _, x := range l {
		if i := m.at(x.Sector); i >= 0 && m.row[i].dirty && m.row[i].S == x.S {
			m.row[i].dirty = false
			n++
		}
	}
	return n
}

func (m *model) drop(from, to int) int {
	n := len(m.dirty(from, to))
	m.row = slices.DeleteFunc(m.row, func(x told) bool { return x.Sector >= from && x.Sector < to })
	return n
}

// same looks whether a cache knows what the model does.
func same(t *testing.T, what string, c *cache.Cache, m *model) {
	t.Helper()
	l := m.last()
	if c.Len() != len(l) {
		t.Fatalf("%s: of %d sectors something is known, want %d", what, c.Len(), len(l))
	}
	for _, x := range l {
		for _, sector := range []int{x.Sector - 1, x.Sector, x.Sector + 1} {
			s, ok := c.Get(sector)
			if want, wantOK := m.get(sector); s != want || ok != wantOK {
				t.Fatalf("%s: of %d %.20q, %v is known, want %.20q, %v", what, sector, s, ok, want, wantOK)
			}
		}
	}
	dirtyIs(t, what, c, math.MinInt, math.MaxInt, m.dirty(math.MinInt, math.MaxInt)...)
}

// dirtyIs looks which sectors are dirty.
func dirtyIs(t *testing.T, what string, c *cache.Cache, from, to int, want ...api.Change) {
	t.Helper()
	if l := c.Dirty(from, to); !slices.Equal(l, want) {
		t.Fatalf("%s: from %d to %d are dirty %.100v, want %.100v", what, from, to, fmt.Sprint(l), fmt.Sprint(want))
	}
}

// knows looks what is known of a sector.
func knows(t *testing.T, c *cache.Cache, sector int, want string) {
	t.Helper()
	if s, ok := c.Get(sector); s != want || !ok {
		t.Errorf("of %d %.20q, %v is known, want %.20q", sector, s, ok, want)
	}
}

// knowsNot looks that nothing is known of sectors.
func knowsNot(t *testing.T, c *cache.Cache, sectors ...int) {
	t.Helper()
	for _, sector := range sectors {
		if s, ok := c.Get(sector); s != "" || ok {
			t.Errorf("of %d %.20q, %v is known", sector, s, ok)
		}
	}
}

// number looks at a count.
func number(t *testing.T, what string, n, want int) {
	t.Helper()
	if n != want {
		t.Errorf("%s: %d, want %d", what, n, want)
	}
}

// ch is a change.
func ch(sector int, s string) api.Change { return api.Change{Sector: sector, S: s} }

// far are sectors far off, and below 0.
var far = []int{math.MinInt, math.MinInt + 1, -1 << 40, -65536, -2, -1, 0, 65535, 65536, 1 << 32, 1<<32 + 3, 1 << 40, math.MaxInt - 1, math.MaxInt}

// draws are numbers that look like chance, the same at each run.
type draws uint64

func (d *draws) next() uint32 {
	*d = *d*6364136223846793005 + 1442695040888963407
	return uint32(*d >> 32)
}

func (d *draws) below(n int) int { return int(d.next()>>1) % n }
