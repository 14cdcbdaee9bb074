package space_test

import (
	"fmt"
	"slices"
	"testing"

	"lockgate/api"
	"lockgate/space"
)

// took does a Take, holds it against the model, and tells the maps, and whether it was done.
func took(t *testing.T, maps []string, m *model, zone, n int) ([]string, []int, bool) {
	t.Helper()
	was := slices.Clone(maps)
	now, sectors, ok := space.Take(m.l, maps, zone, n)
	want, wantOK := m.take(zone, n)
	if ok != wantOK || !slices.Equal(sectors, want) {
		t.Fatalf("%v: Take(%d, %d): %.200v, %v, want %.200v, %v", m.l, zone, n, fmt.Sprint(sectors), ok, fmt.Sprint(want), wantOK)
	}
	same(t, fmt.Sprintf("%v: Take(%d, %d)", m.l, zone, n), now, m)
	if !slices.Equal(maps, was) {
		t.Fatalf("Take(%d, %d): what was handed in is %.200q", zone, n, maps)
	}
	return now, sectors, ok
}

// gave does a Give, likewise.
func gave(t *testing.T, maps []string, m *model, sectors ...int) ([]string, bool) {
	t.Helper()
	was, list := slices.Clone(maps), slices.Clone(sectors)
	now, ok := space.Give(m.l, maps, sectors)
	if want := m.give(sectors); ok != want {
		t.Fatalf("%v: Give of %.200v is not %v", m.l, fmt.Sprint(sectors), want)
	}
	same(t, fmt.Sprintf("%v: Give of %.100v", m.l, fmt.Sprint(sectors)), now, m)
	if !slices.Equal(maps, was) || !slices.Equal(sectors, list) {
		t.Fatalf("Give: what was handed in is %.200q, %.200v", maps, fmt.Sprint(sectors))
	}
	return now, ok
}

// P17.2: Take of each zone, and of none; of n below 0, of 0, 1, as many as are free in the zone, one more, as many as are free in all, one more, and far more.
func TestTake(t *testing.T) {
	for _, l := range layouts() {
		for zone := -1; zone <= 4; zone++ {
			per := l.Size - 2
			for _, n := range []int{-1, 0, 1, 2, per - 1, per, per + 1, 2 * per, 2*per + 1, 3*per - 1, 3 * per, 3*per + 1, 4*per - 1, 4 * per, 4*per + 1, 5 * per, 4 * l.Size} {
				m := fresh(l)
				_, _, ok := took(t, m.maps(), m, zone, n)
				if want := zone >= 0 && zone < 4 && n >= 0 && n <= 4*per; ok != want {
					t.Fatalf("%v: Take(%d, %d) is not %v", l, zone, n, want)
				}
			}
		}
	}
	l := made(19, 3, 2)
	for _, x := range far {
		m := fresh(l)
		took(t, m.maps(), m, x, 1)
		took(t, m.maps(), m, x, 0)
		took(t, m.maps(), m, 1, x)
		took(t, m.maps(), m, x, x)
	}
}

// P17.2: sectors come from the zone, then from the next ones, behind the last one from the first.
func TestTakeRound(t *testing.T) {
	l := made(5, 1, 0) // zones from 42, 47, 52, 57; free are the last three of each
	for zone, want := range [][]int{
		{44, 45, 46, 49, 50, 51, 54, 55, 56, 59, 60, 61}, {49, 50, 51, 54, 55, 56, 59, 60, 61, 44, 45, 46}, {54, 55, 56, 59, 60, 61, 44, 45, 46, 49, 50, 51}, {59, 60, 61, 44, 45, 46, 49, 50, 51, 54, 55, 56},
	} {
		for n := range 13 {
			_, sectors, ok := space.Take(l, fresh(l).maps(), zone, n)
			if !ok || !slices.Equal(sectors, want[:n]) {
				t.Errorf("Take(%d, %d): %v, %v", zone, n, sectors, ok)
			}
		}
	}
}

// P17.2: of maps with gaps the free ones are taken, by rising places.
func TestTakeGaps(t *testing.T) {
	d := draws(173)
	for _, l := range layouts()[:13] {
		for range 12 {
			m := fresh(l)
			for _, sector := range m.sectors() {
				if d.below(3) > 0 {
					m.set(sector, false)
				}
			}
			free := len(m.sectors())
			for zone := range 4 {
				inZone := 0
				for _, is := range m.free[zone] {
					if is {
						inZone++
					}
				}
				for _, n := range []int{0, 1, inZone, inZone + 1, free - 1, free, free + 1} {
					took(t, m.copied().maps(), m.copied(), zone, n)
				}
			}
		}
	}
}

// P17.2: of full maps none is taken, but no sectors are.
func TestTakeFull(t *testing.T) {
	for _, l := range layouts() {
		m := fresh(l)
		m.take(1, 4*(l.Size-2))
		for zone := range 4 {
			took(t, m.maps(), m, zone, 0)
			took(t, m.maps(), m, zone, 1)
		}
	}
}

// P17.2: Give of none, of one, of all, in any order.
func TestGive(t *testing.T) {
	for _, l := range layouts() {
		m := fresh(l)
		maps := m.maps()
		now, sectors, _ := took(t, maps, m, 2, 4*(l.Size-2))
		gave(t, now, m.copied())
		for _, i := range []int{0, 1, len(sectors) / 2, len(sectors) - 1} {
			gave(t, now, m.copied(), sectors[i])
		}
		back := slices.Clone(sectors)
		slices.Reverse(back)
		for _, list := range [][]int{sectors, back, append(slices.Clone(sectors[1:]), sectors[0]), sectors[1:], sectors[:len(sectors)-1]} {
			n := m.copied()
			again, ok := gave(t, now, n, list...)
			if !ok || len(list) == len(sectors) && !slices.Equal(again, maps) {
				t.Fatalf("%v: %v, %v", l, again, ok)
			}
		}
	}
}

// P17.2: Give of one that is free, that is a map's or a folder's, that lies in no zone, or is told twice, wherever it stands among others: nothing is given back.
func TestGiveWrong(t *testing.T) {
	for _, l := range layouts()[:12] {
		m := fresh(l)
		all := m.sectors()
		m.take(0, len(all))
		kept := all[len(all)-1]
		m.set(kept, true)
		maps := m.maps()
		bad := append([]int{kept, -1, 0, 1, 2, l.First - 1, l.First + 4*l.Size, l.Sectors - 1, l.Sectors, 65535}, far...)
		for zone := range 4 {
			bad = append(bad, l.First+zone*l.Size, l.First+zone*l.Size+1)
		}
		if l.Sectors == l.First+4*l.Size { // there is no rest, and the last one is free
			bad = slices.DeleteFunc(bad, func(s int) bool { return s == l.Sectors-1 })
		}
		good := all[:min(4, len(all)-1)]
		for _, sector := range append(bad, good...) {
			for at := range len(good) + 1 {
				if _, ok := gave(t, maps, m.copied(), slices.Insert(slices.Clone(good), at, sector)...); ok {
					t.Fatalf("%v: %d among %v was given back", l, sector, good)
				}
			}
		}
		for _, sector := range bad {
			if _, ok := gave(t, maps, m.copied(), sector); ok {
				t.Fatalf("%v: %d was given back", l, sector)
			}
		}
	}
}

// P17.2: so it is of lists far longer than there are sectors.
func TestGiveLong(t *testing.T) {
	l := made(100, 7, 0)
	m := fresh(l)
	all := m.sectors()
	m.take(0, len(all))
	var list []int
	for range 100 {
		list = append(list, all...)
	}
	gave(t, m.maps(), m.copied(), list...)
}

// P17.3: what is taken was free, and is given back to what was; how many are free goes down and up by just as many.
func TestPlays(t *testing.T) {
	d := draws(174)
	for _, l := range layouts()[:13] {
		for range 8 {
			m := fresh(l)
			maps := m.maps()
			var mine []int
			for range 60 {
				was, wasMaps := space.Free(l, maps), maps
				if d.below(2) == 0 || len(mine) == 0 {
					now, sectors, ok := took(t, maps, m, d.below(4), d.below(2+was/(1+d.below(4))))
					for _, s := range sectors {
						if space.Taken(l, maps, s) || !space.Taken(l, now, s) || slices.Contains(mine, s) {
							t.Fatalf("%v: %d was taken", l, s)
						}
					}
					back, gives := space.Give(l, now, sectors)
					if space.Free(l, now) != was-len(sectors) || ok && (!gives || !slices.Equal(back, wasMaps)) {
						t.Fatalf("%v: %d free, behind %d and %d", l, space.Free(l, now), was, len(sectors))
					}
					mine, maps = append(mine, sectors...), now
					continue
				}
				for i := range mine { // any order
					j := d.below(len(mine))
					mine[i], mine[j] = mine[j], mine[i]
				}
				n := d.below(len(mine) + 1)
				now, ok := gave(t, maps, m, mine[:n]...)
				if !ok || space.Free(l, now) != was+n {
					t.Fatalf("%v: %d free, behind %d and %d", l, space.Free(l, now), was, n)
				}
				mine, maps = mine[n:], now
			}
		}
	}
}

// R3: what is handed in stays, up to its capacity; what is told is its owner's.
func TestMemory(t *testing.T) {
	l := made(19, 3, 2)
	m := fresh(l)
	for _, maps := range [][]string{m.maps(), m.maps()[:3]} {
		handed := append(make([]string, 0, 9), maps...)
		copy(handed[:9][len(handed):], []string{"x", "y", "z", "u", "v"})
		was := slices.Clone(handed[:9])
		sectors := append(make([]int, 0, 9), 124, 125)
		for _, spoil := range []func() []string{
			func() []string { now, list, _ := space.Take(l, handed, 1, 20); clear(list[:cap(list)]); return now },
			func() []string { now, _, _ := space.Take(l, handed, 1, 100); return now },
			func() []string { now, _, _ := space.Take(l, handed, 1, 0); return now },
			func() []string { now, _, _ := space.Take(l, handed, 9, 1); return now },
			func() []string { now, _ := space.Give(l, handed, sectors); return now },
			func() []string { now, _ := space.Give(l, handed, nil); return now },
			func() []string { now, _ := space.Give(l, handed, []int{122}); return now },
		} {
			clear(spoil()[:2])
			if !slices.Equal(handed[:9], was) || !slices.Equal(sectors[:4], []int{124, 125, 0, 0}) {
				t.Fatalf("what was handed in is %q, %v", handed[:9], sectors[:4])
			}
		}
	}
	maps := m.maps()
	now, list, _ := space.Take(l, maps, 0, 3)
	was := slices.Clone(now)
	space.Take(l, now, 0, 3)
	space.Give(l, now, list)
	maps[0] = "spoiled"
	if !slices.Equal(now, was) || !slices.Equal(list, []int{124, 125, 126}) {
		t.Errorf("what was told is %q, %v", now, list)
	}
}

// R1: nothing is no maps.
func TestNothing(t *testing.T) {
	if now, sectors, ok := space.Take(api.Layout{}, nil, 0, 0); len(now) != 0 || len(sectors) != 0 || ok {
		t.Errorf("Take: %v, %v, %v", now, sectors, ok)
	}
	if now, ok := space.Give(api.Layout{}, nil, nil); len(now) != 0 || ok {
		t.Errorf("Give: %v, %v", now, ok)
	}
}
