package layout_test

import (
	"math"
	"testing"

	"lockgate/api"
	"lockgate/layout"
)

// The chapter's examples.
func TestExamples(t *testing.T) {
	l, e := layout.New(200, 3)
	if l != (api.Layout{Sectors: 200, Nodes: 3, First: 122, Size: 19}) || e != api.OK {
		t.Fatalf("New(200, 3): %v, %d", l, e)
	}
	got := []int{layout.Journal(l, 1), layout.Begin(l, 1), layout.Root(l, 1), layout.Zone(l, 142), layout.Place(l, 142)}
	for i, want := range []int{42, 141, 142, 1, 1} {
		if got[i] != want {
			t.Errorf("of the example's places number %d is %d, not %d", i, got[i], want)
		}
	}
}

// makes fails the test, if New doesn't tell just that.
func makes(t *testing.T, sectors, nodes int, want api.Layout, wantErr api.Errno) {
	t.Helper()
	if got, e := layout.New(sectors, nodes); got != want || e != wantErr {
		t.Errorf("New(%d, %d): %v, %d, not %v, %d", sectors, nodes, got, e, want, wantErr)
	}
}

// P13.1: the least sectors of each number of nodes, and one less; the greatest size, and what leaves a rest; all by number.
func TestNew(t *testing.T) {
	for nodes, first := range map[int]int{1: 42, 2: 82, 3: 122, 4: 162, 5: 202, 6: 242, 7: 282, 8: 322} {
		for sectors, size := range map[int]int{
			first + 12: 3, first + 13: 3, first + 14: 3, first + 15: 3, first + 16: 4, first + 17: 4, first + 19: 4, first + 20: 5,
			first + 15995: 3998, first + 15996: 3999, first + 15999: 3999, first + 16000: 4000, first + 16001: 4000, first + 16003: 4000, first + 16004: 4000, first + 16008: 4000,
			65535: 4000, 65536: 4000,
		} {
			makes(t, sectors, nodes, api.Layout{Sectors: sectors, Nodes: nodes, First: first, Size: size}, api.OK)
		}
		for _, sectors := range []int{first + 11, first + 9, first + 8, first + 4, first + 3, first + 1, first, first - 1, first - 4, 41, 2, 1, 0, -1, -2, -4, -100, -65536, -1 << 40, math.MinInt + 400, math.MinInt + 322, math.MinInt + 42, math.MinInt + 41, math.MinInt + 1, math.MinInt} {
			makes(t, sectors, nodes, api.Layout{}, api.ErrSize)
		}
		for _, sectors := range []int{65537, 65538, 1 << 20, 1 << 31, 1 << 32, 1<<32 + 200, 1 << 40, math.MaxInt - 1, math.MaxInt} {
			makes(t, sectors, nodes, api.Layout{}, api.ErrArg)
		}
	}
}

// P13.1: of nodes that there can't be, and of several errors, the first one is told.
func TestNewErrors(t *testing.T) {
	for _, nodes := range []int{0, 9, 10, 16, 256, 257, 1<<16 + 1, 1<<32 + 1, 1 << 40, math.MaxInt, -1, -2, -8, -255, -1 << 40, math.MinInt + 1, math.MinInt} {
		for _, sectors := range []int{200, 5000, 65536, 65537, 1 << 40, math.MaxInt, 54, 53, 42, 12, 3, 0, -1, -100, math.MinInt} {
			makes(t, sectors, nodes, api.Layout{}, api.ErrArg)
		}
	}
}

// P13.1: all sectors near the edges, with all nodes, held against the chapter's words.
func TestNewNearEdges(t *testing.T) {
	for nodes := -1; nodes <= 10; nodes++ {
		for _, edges := range [][2]int{{-20, 800}, {15900, 16400}, {65500, 65560}} {
			for sectors := edges[0]; sectors < edges[1]; sectors++ {
				want, e := made(sectors, nodes)
				makes(t, sectors, nodes, want, e)
			}
		}
	}
}

// P13.1: what one sector more changes, from the least sectors to the most: every fourth one behind First makes the zones greater by one, till they are at their greatest.
func TestNewOneMore(t *testing.T) {
	for nodes := 1; nodes <= 8; nodes++ {
		first, size := 2+40*nodes, 2
		for sectors := first + 12; sectors <= 65536; sectors++ {
			if (sectors-first)%4 == 0 && size < 4000 {
				size++
			}
			makes(t, sectors, nodes, api.Layout{Sectors: sectors, Nodes: nodes, First: first, Size: size}, api.OK)
		}
	}
}

// writes fails the test, if Bytes doesn't tell just that.
func writes(t *testing.T, l api.Layout, want string, wantErr api.Errno) {
	t.Helper()
	if got, e := layout.Bytes(l); got != want || e != wantErr {
		t.Errorf("Bytes(%v): %x, %d, not %x, %d", l, got, e, want, wantErr)
	}
}

// reads fails the test, if Read doesn't tell just that.
func reads(t *testing.T, what, s string, want api.Layout, wantErr api.Errno) {
	t.Helper()
	if got, e := layout.Read(s); got != want || e != wantErr {
		t.Errorf("Read, %s, of %x: %v, %d, not %v, %d", what, s[:min(len(s), 20)], got, e, want, wantErr)
	}
}

// P13.2: layouts' bytes, which are read again.
func TestBytes(t *testing.T) {
	for s, l := range map[string]api.Layout{
		"LGS1\x00\x00\x00\xc8\x00\x03": {Sectors: 200, Nodes: 3, First: 122, Size: 19},
		"LGS1\x00\x00\x00\x36\x00\x01": {Sectors: 54, Nodes: 1, First: 42, Size: 3},
		"LGS1\x00\x01\x00\x00\x00\x08": {Sectors: 65536, Nodes: 8, First: 322, Size: 4000},
		"LGS1\x00\x00\xff\xff\x00\x01": {Sectors: 65535, Nodes: 1, First: 42, Size: 4000},
	} {
		writes(t, l, s, api.OK)
		reads(t, "what is written", s, l, api.OK)
	}
	for _, l := range layouts() {
		writes(t, l, written(uint32(l.Sectors), uint16(l.Nodes)), api.OK)
		reads(t, "what was written", written(uint32(l.Sectors), uint16(l.Nodes)), l, api.OK)
	}
}

// P13.2: each field one more and one less, and far off: such a layout is another one, or may not be.
func TestBytesTurned(t *testing.T) {
	others := 0
	for _, l := range layouts() {
		for _, x := range turned(l) {
			if mayBe(x) {
				others++
				writes(t, x, written(uint32(x.Sectors), uint16(x.Nodes)), api.OK)
			} else {
				writes(t, x, "", api.ErrArg)
			}
		}
	}
	if others == 0 {
		t.Error("none was another one")
	}
	for _, l := range wrong() {
		writes(t, l, "", api.ErrArg)
	}
}

// P13.2: texts that are too short or too long.
func TestReadCut(t *testing.T) {
	for _, l := range layouts() {
		s := written(uint32(l.Sectors), uint16(l.Nodes))
		for n := range s {
			reads(t, "cut short", s[:n], api.Layout{}, api.ErrForm)
			reads(t, "cut short ahead", s[n+1:], api.Layout{}, api.ErrForm)
			reads(t, "without a byte", s[:n]+s[n+1:], api.Layout{}, api.ErrForm)
		}
		for _, more := range []string{"\x00", "\x01", "LGS1", s, string(make([]byte, 502))} {
			reads(t, "with more behind", s+more, api.Layout{}, api.ErrForm)
			reads(t, "with more ahead", more+s, api.Layout{}, api.ErrForm)
		}
	}
	reads(t, "long", string(make([]byte, 1<<20)), api.Layout{}, api.ErrForm)
}

// P13.2: texts of which a byte is turned, to each other one: those of another layout, or of none.
func TestReadTurned(t *testing.T) {
	others := 0
	for _, l := range []api.Layout{{Sectors: 200, Nodes: 3}, {Sectors: 54, Nodes: 1}, {Sectors: 65536, Nodes: 8}, {Sectors: 65535, Nodes: 4}} {
		s := written(uint32(l.Sectors), uint16(l.Nodes))
		for i := range len(s) {
			for x := range 256 {
				now := s[:i] + string([]byte{byte(x)}) + s[i+1:]
				want, e := readAs(now)
				if e == api.OK {
					others++
				}
				reads(t, "turned", now, want, e)
			}
		}
	}
	if others < 500 {
		t.Errorf("just %d were layouts", others)
	}
}

// P13.2: other signs, and numbers that make no layout.
func TestReadOfNone(t *testing.T) {
	numbers := written(200, 3)[4:]
	for _, sign := range []string{"LGS0", "LGS2", "lgs1", "LGI1", "LGH1", "LGD1", "LGC1", "SLG1", "\x00\x00\x00\x00", "1SGL"} {
		reads(t, "of another sign", sign+numbers, api.Layout{}, api.ErrForm)
	}
	for _, nodes := range []uint16{0, 9, 10, 255, 256, 257, 1 << 15, 65535} {
		for _, sectors := range []uint32{0, 54, 200, 5000, 65536, 65537, 1<<32 - 1} {
			reads(t, "of wrong nodes", written(sectors, nodes), api.Layout{}, api.ErrForm)
		}
	}
	for nodes := uint16(1); nodes <= 8; nodes++ {
		for _, sectors := range []uint32{0, 1, 2, 41, 42, 2 + 40*uint32(nodes), 13 + 40*uint32(nodes), 65537, 65536 + 200, 1<<24 + 200, 1 << 31, 1<<31 + 200, 1<<32 - 1} {
			reads(t, "of wrong sectors", written(sectors, nodes), api.Layout{}, api.ErrForm)
		}
	}
}
