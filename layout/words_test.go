package layout_test

import (
	"encoding/binary"
	"math"

	"lockgate/api"
)

// made is New by the chapter's words. They are held against what the sectors would have to be, so that nothing is taken away from these.
func made(sectors, nodes int) (api.Layout, api.Errno) {
	if nodes < 1 || nodes > 8 || sectors > 65536 {
		return api.Layout{}, api.ErrArg
	}
	l := api.Layout{Sectors: sectors, Nodes: nodes, First: 2 + 40*nodes}
	for size := 3; size <= 4000 && l.First+4*size <= sectors; size++ {
		l.Size = size
	}
	if l.Size == 0 {
		return api.Layout{}, api.ErrSize
	}
	return l, api.OK
}

// mayBe tells whether there are sectors and nodes of which l is the layout.
func mayBe(l api.Layout) bool {
	want, e := made(l.Sectors, l.Nodes)
	return e == api.OK && want == l
}

// written are a layout's bytes, also of one that may not be.
func written(sectors uint32, nodes uint16) string {
	return string(binary.BigEndian.AppendUint16(binary.BigEndian.AppendUint32([]byte("LGS1"), sectors), nodes))
}

// readAs is Read by the chapter's words.
func readAs(s string) (api.Layout, api.Errno) {
	if len(s) != 10 || s[:4] != "LGS1" {
		return api.Layout{}, api.ErrForm
	}
	l, e := made(int(binary.BigEndian.Uint32([]byte(s[4:8]))), int(binary.BigEndian.Uint16([]byte(s[8:]))))
	if e != api.OK {
		return api.Layout{}, api.ErrForm
	}
	return l, api.OK
}

// far are numbers that are no node, zone or sector of any disk, nor a number of any layout.
var far = []int{math.MinInt, math.MinInt + 1, -1 << 40, -65536, -4001, -41, -5, -2, -1, 65536, 65537, 1 << 31, 1 << 32, 1 << 40, math.MaxInt - 1, math.MaxInt}

// layouts are some that may be: the least of each number of nodes, the greatest, and such with a rest of 0 to 3 sectors.
func layouts() []api.Layout {
	var l []api.Layout
	for nodes := 1; nodes <= 8; nodes++ {
		first := 2 + 40*nodes
		for _, sectors := range []int{first + 12, first + 13, first + 15, first + 16, first + 78, first + 400, first + 15999, first + 16000, first + 16001, first + 20000, 65535, 65536} {
			x, e := made(sectors, nodes)
			if e != api.OK {
				panic("no layout")
			}
			l = append(l, x)
		}
	}
	return l
}

// turned are the layouts that differ from l in a field, by one or by far.
func turned(l api.Layout) []api.Layout {
	var all []api.Layout
	for _, field := range []func(*api.Layout) *int{
		func(l *api.Layout) *int { return &l.Sectors }, func(l *api.Layout) *int { return &l.Nodes },
		func(l *api.Layout) *int { return &l.First }, func(l *api.Layout) *int { return &l.Size },
	} {
		was := *field(&l)
		for _, now := range append([]int{was - 1, was + 1, was - 4, was + 4, was - 65536, was + 65536, was + 1<<32, 0, -was}, far...) {
			if now != was {
				x := l
				*field(&x) = now
				all = append(all, x)
			}
		}
	}
	return all
}

// wrong are layouts that may not be.
func wrong() []api.Layout {
	all := []api.Layout{{}, {Sectors: 200, Nodes: 3}, {First: 122, Size: 19}, {Sectors: 200, Nodes: 3, First: 122}, {Sectors: 200, Nodes: 3, Size: 19}, {Nodes: 3, First: 122, Size: 19}, {Sectors: 200, First: 122, Size: 19}}
	for _, l := range layouts() {
		for _, x := range turned(l) {
			if !mayBe(x) {
				all = append(all, x)
			}
		}
		// Of sectors and nodes that make none, with what they would be parted into.
		all = append(all, api.Layout{Sectors: l.First + 11, Nodes: l.Nodes, First: l.First, Size: 2}, api.Layout{Sectors: l.First, Nodes: l.Nodes, First: l.First})
	}
	return append(all, api.Layout{Sectors: 200, First: 2, Size: 49}, api.Layout{Sectors: 1000, Nodes: 9, First: 362, Size: 159}, api.Layout{Sectors: 65537, Nodes: 1, First: 42, Size: 4000}, api.Layout{Sectors: 65536, Nodes: 1, First: 42, Size: 16373}, api.Layout{Sectors: -10, Nodes: 1, First: 42, Size: -13})
}
