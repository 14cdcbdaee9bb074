package space_test

import (
	"slices"
	"strings"
	"testing"

	"lockgate/api"
	"lockgate/layout"
	"lockgate/space"
)

// wrong looks what is told of maps that aren't right: 0, false, nothing, and the maps as they are.
func wrong(t *testing.T, what string, l api.Layout, maps []string) {
	t.Helper()
	was := slices.Clone(maps)
	if space.Right(l, maps) || space.Free(l, maps) != 0 {
		t.Errorf("%s: right %v, %d free", what, space.Right(l, maps), space.Free(l, maps))
	}
	for _, sector := range []int{-1, 0, l.First, l.First + 1, l.First + 2, l.First + l.Size, l.First + 3*l.Size + 2} {
		if space.Taken(l, maps, sector) {
			t.Errorf("%s: %d is taken", what, sector)
		}
		if now, ok := space.Give(l, maps, []int{sector}); ok || !slices.Equal(now, was) {
			t.Errorf("%s: Give of %d: %.100q, %v", what, sector, now, ok)
		}
	}
	if now, ok := space.Give(l, maps, nil); ok || !slices.Equal(now, was) {
		t.Errorf("%s: Give of none: %.100q, %v", what, now, ok)
	}
	for zone := -1; zone <= 4; zone++ {
		for _, n := range []int{-1, 0, 1, 2} {
			if now, sectors, ok := space.Take(l, maps, zone, n); ok || len(sectors) != 0 || !slices.Equal(now, was) {
				t.Errorf("%s: Take(%d, %d): %.100q, %v, %v", what, zone, n, now, sectors, ok)
			}
		}
	}
	if !slices.Equal(maps, was) {
		t.Errorf("%s: what was handed in is %.100q", what, maps)
	}
}

// with is l with another text at a place.
func with(l []string, i int, s string) []string {
	l = slices.Clone(l)
	l[i] = s
	return l
}

// flip is s with one bit turned round.
func flip(s string, bit int) string {
	b := []byte(s)
	b[bit/8] ^= 1 << (bit % 8)
	return string(b)
}

// P17.1: Right of new maps and of full ones; of too few, too many; of maps too short and too long; of a bit beyond Size; of bits 0 and 1.
func TestRight(t *testing.T) {
	for _, l := range layouts() {
		m := fresh(l)
		same(t, "new", m.maps(), m)
		if s := layout.Map(l); !slices.Equal(m.maps(), []string{s, s, s, s}) {
			t.Errorf("%v: new maps are %.100q", l, m.maps())
		}
		for range 2 { // new ones, then full ones
			maps := m.maps()
			wrong(t, "none", l, nil)
			wrong(t, "one", l, maps[:1])
			wrong(t, "three", l, maps[:3])
			wrong(t, "five", l, append(m.maps(), maps[0]))
			wrong(t, "eight", l, append(m.maps(), maps...))
			for zone, s := range maps {
				wrong(t, "an empty one", l, with(maps, zone, ""))
				wrong(t, "a short one", l, with(maps, zone, s[1:]))
				wrong(t, "a shorter end", l, with(maps, zone, s[:len(s)-1]))
				wrong(t, "a long one", l, with(maps, zone, s+"\x00"))
				wrong(t, "a sector", l, with(maps, zone, s+strings.Repeat("\x00", 512-len(s))))
				wrong(t, "bit 0 is free", l, with(maps, zone, flip(s, 0)))
				wrong(t, "bit 1 is free", l, with(maps, zone, flip(s, 1)))
				wrong(t, "both are", l, with(maps, zone, flip(flip(s, 0), 1)))
				for bit := l.Size; bit < 8*len(s); bit++ {
					wrong(t, "a bit beyond", l, with(maps, zone, flip(s, bit)))
				}
			}
			m.take(0, len(m.sectors()))
			same(t, "full", m.maps(), m)
		}
	}
}

// P17.1: of a layout that may not be no maps are right.
func TestWrongLayouts(t *testing.T) {
	for _, l := range layouts() {
		maps := fresh(l).maps()
		for _, x := range []api.Layout{
			{}, {Sectors: l.Sectors, Nodes: l.Nodes, Size: l.Size}, {Sectors: l.Sectors, Nodes: l.Nodes, First: l.First + 1, Size: l.Size}, {Sectors: l.Sectors, Nodes: l.Nodes + 1, First: l.First, Size: l.Size},
			{Sectors: l.Sectors + 65537, Nodes: l.Nodes, First: l.First, Size: l.Size}, {Sectors: l.First + 4*l.Size - 1, Nodes: l.Nodes, First: l.First, Size: l.Size}, {Sectors: l.Sectors, First: l.First, Size: l.Size}, {Sectors: l.Sectors, Nodes: 9, First: l.First, Size: l.Size},
			{Sectors: l.First + 4*(l.Size-1), Nodes: l.Nodes, First: l.First, Size: l.Size},
		} {
			wrong(t, "a wrong layout", x, maps)
		}
		shorter := l
		shorter.Size--
		wrong(t, "a smaller Size", shorter, maps)
		shorter.Size = l.Size + 1
		wrong(t, "a greater Size", shorter, maps)
		shorter.Size = 0
		wrong(t, "no Size", shorter, make([]string, 4))
		shorter.Size = -1
		wrong(t, "Size -1", shorter, make([]string, 4))
	}
	wrong(t, "nothing", api.Layout{}, make([]string, 4))
}

// P17.1: Free of new disks is layout.Room; of full ones 0.
func TestFree(t *testing.T) {
	for size := 3; size <= 4000; size = size + 1 + size/40 {
		l := made(size, 1+size%8, size%4)
		if size == 4000 {
			l.Sectors = l.First + 4*size
		}
		m := fresh(l)
		if n := space.Free(l, m.maps()); n != 4*(size-2) || n != layout.Room(l) {
			t.Errorf("%v: %d free", l, n)
		}
		m.take(0, 4*(size-2))
		if n := space.Free(l, m.maps()); n != 0 {
			t.Errorf("%v, full: %d free", l, n)
		}
	}
}

// P17.1: Free counts the sectors of each zone, one by one.
func TestFreeOneByOne(t *testing.T) {
	m := fresh(made(19, 3, 2))
	d := draws(171)
	for l := m.sectors(); len(l) > 0; l = m.sectors() {
		same(t, "on the way", m.maps(), m)
		m.set(l[d.below(len(l))], false)
	}
	same(t, "full", m.maps(), m)
}

// P17.1: Taken of each sector of a disk, of sectors beyond it, and in no zone.
func TestTaken(t *testing.T) {
	d := draws(172)
	for _, l := range layouts()[:14] {
		m := fresh(l)
		for round := range 3 {
			maps := m.maps()
			for sector := -5; sector < l.Sectors+20; sector++ {
				zone, place, ok := m.where(sector)
				if want := ok && !m.free[zone][place]; space.Taken(l, maps, sector) != want {
					t.Fatalf("%v, round %d: Taken(%d) is not %v", l, round, sector, want)
				}
			}
			for _, sector := range far {
				if space.Taken(l, maps, sector) {
					t.Errorf("%v: %d is taken", l, sector)
				}
			}
			for _, sector := range m.sectors() {
				m.set(sector, round == 0 && d.below(2) == 0)
			}
		}
	}
}

// P17.1: zones beyond a map's byte, and the rest of the greatest disk.
func TestTakenGreat(t *testing.T) {
	l := made(4000, 8, 49214)
	m := fresh(l)
	m.take(2, 16000-8)
	maps := m.maps()
	for sector := -1; sector <= 65537; sector++ {
		if want := sector >= l.First && sector < l.First+16000; space.Taken(l, maps, sector) != want {
			t.Fatalf("full: Taken(%d) is not %v", sector, want)
		}
	}
}

// The chapter's examples.
func TestExamples(t *testing.T) {
	l, e := layout.New(200, 3)
	if e != api.OK {
		t.Fatal(e)
	}
	s := layout.Map(l)
	maps := []string{s, s, s, s}
	if n := space.Free(l, maps); n != 68 {
		t.Errorf("Free: %d", n)
	}
	now, sectors, ok := space.Take(l, maps, 3, 2)
	if !ok || !slices.Equal(sectors, []int{181, 182}) || space.Free(l, now) != 66 {
		t.Errorf("Take(3, 2): %v, %v", sectors, ok)
	}
	if again, ok := space.Give(l, now, []int{181, 181}); ok || !slices.Equal(again, now) {
		t.Errorf("Give of 181, 181: %q, %v", again, ok)
	}
	if again, ok := space.Give(l, now, []int{179}); ok || !slices.Equal(again, now) {
		t.Errorf("Give of 179: %q, %v", again, ok)
	}
	if again, ok := space.Give(l, now, []int{182, 181}); !ok || !slices.Equal(again, maps) {
		t.Errorf("Give of 182, 181: %q, %v", again, ok)
	}
}
