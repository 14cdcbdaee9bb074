package space_test

import (
	"math"
	"slices"
	"testing"

	"lockgate/api"
	"lockgate/space"
)

// made is the layout of so many sectors in each zone, for so many nodes; rest sectors behind the zones are none's.
func made(size, nodes, rest int) api.Layout {
	first := 2 + 40*nodes
	return api.Layout{Sectors: first + 4*size + rest, Nodes: nodes, First: first, Size: size}
}

// layouts are some that may be: zones that end within a byte of their maps, and at its end, the least and the greatest.
func layouts() []api.Layout {
	l := []api.Layout{made(3, 1, 0), made(3, 8, 3), made(4, 2, 1), made(6, 3, 0), made(7, 1, 2), made(8, 5, 3), made(9, 1, 0), made(10, 4, 1), made(15, 2, 0), made(16, 1, 1), made(17, 6, 2), made(19, 3, 2), made(100, 7, 0), made(511, 1, 3)}
	return append(l, made(3999, 8, 0), made(4000, 1, 0), made(4000, 8, 49214))
}

// model is what the maps of a disk say, kept in another way: of each zone the places that are free.
type model struct {
	l    api.Layout
	free [4][]bool
}

// fresh are the maps of a new disk.
func fresh(l api.Layout) *model {
	m := &model{l: l}
	for zone := range m.free {
		for place := range l.Size {
			m.free[zone] = append(m.free[zone], place > 1)
		}
	}
	return m
}

// copied are the same ones, kept apart.
func (m *model) copied() *model {
	n := &model{l: m.l}
	for zone := range m.free {
		n.free[zone] = slices.Clone(m.free[zone])
	}
	return n
}

// maps are the model's as bytes: the first place of eight is that of worth 1.
func (m *model) maps() []string {
	var l []string
	for _, free := range m.free {
		var b []byte
		for place, is := range free {
			if place%8 == 0 {
				b = append(b, 0)
			}
			if !is {
				b[place/8] += byte(math.Pow(2, float64(place%8)))
			}
		}
		l = append(l, string(b))
	}
	return l
}

// where is the zone and the place of a sector; false, if it has none.
func (m *model) where(sector int) (int, int, bool) {
	for zone := range 4 {
		for place := range m.l.Size {
			if m.l.First+zone*m.l.Size+place == sector {
				return zone, place, true
			}
		}
	}
	return 0, 0, false
}

// sectors are those that are free, by rising numbers.
func (m *model) sectors() []int {
	var l []int
	for zone, free := range m.free {
		for place, is := range free {
			if is {
				l = append(l, m.l.First+zone*m.l.Size+place)
			}
		}
	}
	return l
}

// take is Take by the chapter's words: the free ones in order, beginning with those of a zone.
func (m *model) take(zone, n int) ([]int, bool) {
	if zone < 0 || zone > 3 || n < 0 {
		return nil, false
	}
	l := m.sectors()
	begin := slices.IndexFunc(l, func(s int) bool { return s >= m.l.First+zone*m.l.Size })
	if begin < 0 {
		begin = len(l)
	}
	l = append(slices.Clone(l[begin:]), l[:begin]...)
	if n > len(l) {
		return nil, false
	}
	for _, sector := range l[:n] {
		m.set(sector, false)
	}
	return l[:n], true
}

// set makes a sector of a zone free, or not.
func (m *model) set(sector int, free bool) {
	at := sector - m.l.First
	m.free[at/m.l.Size][at%m.l.Size] = free
}

// give is Give by the chapter's words.
func (m *model) give(sectors []int) bool {
	told := map[int]bool{}
	for _, sector := range sectors {
		at := sector - m.l.First
		if told[sector] || at < 0 || at >= 4*m.l.Size || at%m.l.Size < 2 || m.free[at/m.l.Size][at%m.l.Size] {
			return false
		}
		told[sector] = true
	}
	for _, sector := range sectors {
		m.set(sector, true)
	}
	return true
}

// same looks whether maps are the model's, and how many sectors are free.
func same(t *testing.T, what string, maps []string, m *model) {
	t.Helper()
	if !slices.Equal(maps, m.maps()) {
		t.Fatalf("%s: the maps are %.200q, want %.200q", what, maps, m.maps())
	}
	if n := space.Free(m.l, maps); n != len(m.sectors()) {
		t.Fatalf("%s: %d free, want %d", what, n, len(m.sectors()))
	}
	if !space.Right(m.l, maps) {
		t.Fatalf("%s: the maps aren't right", what)
	}
}

// far are numbers far off.
var far = []int{math.MinInt, math.MinInt + 1, -1 << 40, -65536, 65536, 1 << 31, 1 << 32, 1<<32 + 1, 1 << 40, math.MaxInt - 1, math.MaxInt}

// draws are numbers that look like chance, the same at each run.
type draws uint64

func (d *draws) next() uint32 {
	*d = *d*6364136223846793005 + 1442695040888963407
	return uint32(*d >> 32)
}

func (d *draws) below(n int) int { return int(d.next()>>1) % n }
