package layout_test

import (
	"slices"
	"strings"
	"testing"

	"lockgate/api"
	"lockgate/layout"
)

// is fails the test, if a number isn't the one that is wanted.
func is(t *testing.T, what string, l api.Layout, of, got, want int) {
	t.Helper()
	if got != want {
		t.Errorf("%s(%v, %d): %d, not %d", what, l, of, got, want)
	}
}

// P13.3: the journals, one behind the other from sector 2 on, and none of nodes that there aren't.
func TestJournal(t *testing.T) {
	for _, l := range layouts() {
		for node, want := range []int{2, 42, 82, 122, 162, 202, 242, 282, 322}[:l.Nodes] {
			is(t, "Journal", l, node, layout.Journal(l, node), want)
		}
		for _, node := range append([]int{l.Nodes, l.Nodes + 1, 8, 9, 256, 1 << 16}, far...) {
			is(t, "Journal", l, node, layout.Journal(l, node), -1)
		}
	}
}

// P13.3: the zones, one behind the other from First on, each with its map and its folder, and none beside these four.
func TestBeginAndRoot(t *testing.T) {
	for _, l := range layouts() {
		for zone, want := range []int{l.First, l.First + l.Size, l.First + l.Size + l.Size, l.First + l.Size + l.Size + l.Size} {
			is(t, "Begin", l, zone, layout.Begin(l, zone), want)
			is(t, "Root", l, zone, layout.Root(l, zone), want+1)
		}
		for _, zone := range append([]int{4, 5, 8, 256, 1 << 16}, far...) {
			is(t, "Begin", l, zone, layout.Begin(l, zone), -1)
			is(t, "Root", l, zone, layout.Root(l, zone), -1)
		}
	}
}

// P13.3: the zone and the place of each sector of the disk, counted along it, and of none beyond it.
func TestZoneAndPlace(t *testing.T) {
	for _, l := range layouts() {
		zone, place := 0, 0
		for sector := range l.Sectors + 20 {
			if sector < l.First || zone == 4 {
				is(t, "Zone", l, sector, layout.Zone(l, sector), -1)
				is(t, "Place", l, sector, layout.Place(l, sector), -1)
				continue
			}
			is(t, "Zone", l, sector, layout.Zone(l, sector), zone)
			is(t, "Place", l, sector, layout.Place(l, sector), place)
			if place++; place == l.Size {
				zone, place = zone+1, 0
			}
		}
		if zone != 4 || place != 0 {
			t.Fatalf("%v has no room for its zones", l)
		}
		for _, sector := range far {
			is(t, "Zone", l, sector, layout.Zone(l, sector), -1)
			is(t, "Place", l, sector, layout.Place(l, sector), -1)
		}
		if t.Failed() {
			return
		}
	}
}

// P13.3: each zone's first sector and its last one, and those beside them, by number.
func TestZoneEdges(t *testing.T) {
	l := api.Layout{Sectors: 200, Nodes: 3, First: 122, Size: 19}
	for sector, want := range map[int][2]int{
		121: {-1, -1}, 122: {0, 0}, 123: {0, 1}, 140: {0, 18}, 141: {1, 0}, 159: {1, 18}, 160: {2, 0}, 178: {2, 18}, 179: {3, 0}, 180: {3, 1}, 197: {3, 18},
		198: {-1, -1}, 199: {-1, -1}, 200: {-1, -1}, 0: {-1, -1}, 1: {-1, -1}, 2: {-1, -1}, -1: {-1, -1},
	} {
		is(t, "Zone", l, sector, layout.Zone(l, sector), want[0])
		is(t, "Place", l, sector, layout.Place(l, sector), want[1])
	}
}

// P13.3: a new zone's map: as many bits as the zone has sectors, in as few bytes as may be, of which the first two are taken.
func TestMap(t *testing.T) {
	for size, bytes := range map[int]int{3: 1, 4: 1, 7: 1, 8: 1, 9: 2, 15: 2, 16: 2, 17: 3, 19: 3, 100: 13, 3992: 499, 3993: 500, 3999: 500, 4000: 500} {
		for rest := range 4 {
			l, e := layout.New(122+4*size+rest, 3)
			if e != api.OK || l.Size != size {
				t.Fatalf("New makes %v, %d", l, e)
			}
			if got, want := layout.Map(l), "\x03"+strings.Repeat("\x00", bytes-1); got != want {
				t.Errorf("Map(%v): %d bytes %x, not %d", l, len(got), got[:min(len(got), 4)], bytes)
			}
		}
	}
	for _, l := range layouts() {
		if got, want := layout.Map(l), "\x03"+strings.Repeat("\x00", (l.Size-1)/8); got != want {
			t.Errorf("Map(%v): %d bytes %x", l, len(got), got[:min(len(got), 4)])
		}
	}
}

// P13.3: how many sectors are neither maps nor folders.
func TestRoom(t *testing.T) {
	for _, w := range [][3]int{{200, 3, 68}, {54, 1, 4}, {57, 1, 4}, {58, 1, 8}, {334, 8, 4}, {65536, 1, 15992}, {65536, 8, 15992}, {16041, 1, 15988}} {
		l, _ := layout.New(w[0], w[1])
		if got := layout.Room(l); got != w[2] {
			t.Errorf("Room(%v): %d, not %d", l, got, w[2])
		}
	}
	for _, l := range layouts() {
		n := 0
		for sector := range l.Sectors {
			if layout.Place(l, sector) > 1 {
				n++
			}
		}
		is(t, "Room", l, 0, layout.Room(l), n)
	}
}

// P13.3: of layouts that may not be nothing is told, whatever is asked.
func TestPlacesOfWrongLayouts(t *testing.T) {
	l := wrong()
	if len(l) < 5000 {
		t.Fatalf("just %d wrong ones", len(l))
	}
	for _, l := range l {
		for i, of := range []int{0, 1, 2, 3, 122, 123, 141, l.First, l.First + 1, l.First + l.Size, l.Sectors - 1, -1, 4, 65535} {
			if i < 4 || i > 9 {
				is(t, "Journal", l, of, layout.Journal(l, of), -1)
				is(t, "Begin", l, of, layout.Begin(l, of), -1)
				is(t, "Root", l, of, layout.Root(l, of), -1)
			}
			is(t, "Zone", l, of, layout.Zone(l, of), -1)
			is(t, "Place", l, of, layout.Place(l, of), -1)
		}
		if m := layout.Map(l); m != "" {
			t.Errorf("Map(%v): %d bytes", l, len(m))
		}
		is(t, "Room", l, 0, layout.Room(l), 0)
		if t.Failed() {
			return
		}
	}
}

// owners are, by sectors, how many things have each one of a disk: the layout, the view, the journals, the zones' places.
func owners(t *testing.T, l api.Layout) []int {
	t.Helper()
	n := make([]int, l.Sectors)
	n[0], n[1] = 1, 1
	for node := range l.Nodes {
		for i := range 40 {
			n[layout.Journal(l, node)+i]++
		}
	}
	for zone := range 4 {
		begin := layout.Begin(l, zone)
		if layout.Place(l, begin) != 0 || layout.Place(l, layout.Root(l, zone)) != 1 || layout.Zone(l, layout.Root(l, zone)) != zone {
			t.Fatalf("%v has the map and the folder of zone %d elsewhere", l, zone)
		}
		for place := range l.Size {
			n[begin+place]++
		}
	}
	return n
}

// P13.4: no sector of a disk belongs to two things, each of a zone's has a place of its own below Size, and at most 3 are left where zones aren't as great as they may be.
func TestSectorsBelongToOne(t *testing.T) {
	for _, l := range layouts() {
		left := 0
		for sector, n := range owners(t, l) {
			if n > 1 {
				t.Fatalf("%v: sector %d belongs to %d things", l, sector, n)
			}
			left += 1 - n
		}
		if left > 3 && l.Size < 4000 {
			t.Errorf("%v leaves %d sectors", l, left)
		}
		places := [4][]int{}
		for sector := range l.Sectors {
			zone, place := layout.Zone(l, sector), layout.Place(l, sector)
			if (zone < 0) != (place < 0) || zone >= 0 && layout.Begin(l, zone)+place != sector {
				t.Fatalf("%v: sector %d is place %d of zone %d", l, sector, place, zone)
			}
			if zone >= 0 {
				places[zone] = append(places[zone], place)
			}
		}
		for zone, all := range places {
			slices.Sort(all)
			if len(all) != l.Size || len(slices.Compact(slices.Clone(all))) != l.Size || all[0] != 0 || all[l.Size-1] != l.Size-1 {
				t.Fatalf("%v: zone %d has %d places", l, zone, len(all))
			}
		}
	}
}
