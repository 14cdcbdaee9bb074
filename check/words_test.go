package check_test

import (
	"encoding/binary"
	"fmt"
	"maps"
	"slices"
	"strings"
	"testing"

	"lockgate/api"
	"lockgate/check"
	"lockgate/ops"
	"lockgate/tree"
)

// sized is the layout of so many sectors and nodes, counted here anew.
func sized(sectors, nodes int) api.Layout {
	first := 2 + 40*nodes
	return api.Layout{Sectors: sectors, Nodes: nodes, First: first, Size: min((sectors-first)/4, 4000)}
}

// roomy has 4 times 98 sectors for things and their bytes, and some behind its zones.
var roomy = sized(2+40+400+3, 1)

// begin is a zone's first sector; zoneOf is that in which a sector lies, or -1.
func begin(l api.Layout, zone int) int { return l.First + zone*l.Size }

func zoneOf(l api.Layout, sector int) int {
	if sector < l.First || sector >= begin(l, 4) {
		return -1
	}
	return (sector - l.First) / l.Size
}

// home tells whether a thing, or some of its bytes, may lie in a sector.
func home(l api.Layout, sector int) bool {
	zone := zoneOf(l, sector)
	return zone >= 0 && sector >= begin(l, zone)+2
}

// filled is a text as it lies in a sector; unfilled is the text of a sector that is right.
func filled(text string) string {
	s := string(binary.BigEndian.AppendUint16(nil, uint16(len(text)))) + text
	return s + strings.Repeat("\x00", 512-len(s))
}

func unfilled(s string) (string, bool) {
	if len(s) != 512 || int(s[0])<<8+int(s[1]) > 510 {
		return "", false
	}
	n := int(s[0])<<8 + int(s[1])
	return s[2 : 2+n], filled(s[2:2+n]) == s
}

// node is what lies in a thing's sector.
type node struct {
	kind, links, size int
	data              []int
}

// text is how it lies there.
func (n node) text() string {
	b := binary.BigEndian.AppendUint16([]byte("LGI1"), uint16(n.kind))
	b = binary.BigEndian.AppendUint16(b, uint16(n.links))
	b = binary.BigEndian.AppendUint32(b, uint32(n.size))
	for _, at := range n.data {
		b = binary.BigEndian.AppendUint32(b, uint32(at))
	}
	return filled(string(b))
}

// number is that of some bytes.
func number(s string) int {
	n := 0
	for _, b := range []byte(s) {
		n = n<<8 | int(b)
	}
	return n
}

// nodeOf is the node in a sector, if it is right.
func nodeOf(s string) (node, bool) {
	t, ok := unfilled(s)
	if !ok || len(t) < 12 || t[:4] != "LGI1" {
		return node{}, false
	}
	n := node{kind: number(t[4:6]), links: number(t[6:8]), size: number(t[8:12])}
	twice := map[int]bool{}
	for i := 12; i+4 <= len(t); i += 4 {
		at := number(t[i : i+4])
		if twice[at] || at > 65535 {
			return node{}, false
		}
		twice[at] = true
		n.data = append(n.data, at)
	}
	return n, len(t)%4 == 0 && (n.kind == 1 && n.links >= 1 && n.links <= 1000 || n.kind == 2 && n.links == 1) && n.size <= 6144 && len(n.data) == (n.size+511)/512
}

// name tells whether a text is one.
func name(s string) bool {
	for _, b := range []byte(s) {
		if !strings.ContainsRune("abcdefghijklmnopqrstuvwxyzABCDEFGHIJKLMNOPQRSTUVWXYZ0123456789.-_", rune(b)) {
			return false
		}
	}
	return len(s) >= 1 && len(s) <= 30 && s != "." && s != ".."
}

// sum is a name's zone.
func sum(name string) int {
	n := 0
	for _, b := range []byte(name) {
		n += int(b)
	}
	return n % 4
}

// listOf are the names in bytes, and the sectors of what they name, if these are a list.
func listOf(b string) ([]api.Entry, bool) {
	var l []api.Entry
	last := ""
	for b != "" {
		if len(b) < 2 || len(b) < 6+number(b[:2]) {
			return nil, false
		}
		n := number(b[:2])
		e := api.Entry{Name: b[2 : 2+n], Sector: number(b[2+n : 6+n])}
		if !name(e.Name) || e.Name <= last || e.Sector > 65535 {
			return nil, false
		}
		l, last, b = append(l, e), e.Name, b[6+n:]
	}
	return l, true
}

// listText is how a list lies in a sector.
func listText(l ...api.Entry) string {
	var b []byte
	for _, e := range l {
		b = binary.BigEndian.AppendUint16(b, uint16(len(e.Name)))
		b = append(b, e.Name...)
		b = binary.BigEndian.AppendUint32(b, uint32(e.Sector))
	}
	return string(b) + strings.Repeat("\x00", 512-len(b))
}

// mapOf are the places of a zone that are taken, if its map is right.
func mapOf(l api.Layout, s string) (map[int]bool, bool) {
	t, ok := unfilled(s)
	if !ok || len(t) != (l.Size+7)/8 {
		return nil, false
	}
	taken := map[int]bool{}
	for i := range 8 * len(t) {
		if t[i/8]>>(i%8)&1 == 1 {
			taken[i] = true
			ok = ok && i < l.Size
		}
	}
	return taken, ok && taken[0] && taken[1]
}

// mapText is how a map lies in its sector.
func mapText(l api.Layout, taken map[int]bool) string {
	b := make([]byte, (l.Size+7)/8)
	for i, is := range taken {
		if is {
			b[i/8] |= 1 << (i % 8)
		}
	}
	return filled(string(b))
}

// shelf is a disk.
type shelf struct {
	l api.Layout
	s []string
}

// newShelf is a new one.
func newShelf(t *testing.T, l api.Layout) *shelf {
	t.Helper()
	d := &shelf{l, make([]string, l.Sectors)}
	for i := range d.s {
		d.s[i] = strings.Repeat("\x00", 512)
	}
	row, e := ops.Format(l)
	if e != api.OK {
		t.Fatalf("Format(%v): %v", l, e)
	}
	d.apply(row)
	return d
}

func (d *shelf) apply(row []api.Change) {
	for _, c := range row {
		d.s[c.Sector] = c.S
	}
}

// with is a disk on which something else lies.
func (d *shelf) with(row ...api.Change) *shelf {
	now := &shelf{d.l, slices.Clone(d.s)}
	now.apply(row)
	return now
}

// lie is a change.
func lie(at int, s string) api.Change { return api.Change{Sector: at, S: s} }

// taking are changes of maps, after which some sectors are taken, and others not.
func (d *shelf) taking(taken, free []int) []api.Change {
	var row []api.Change
	for zone := range 4 {
		m, _ := mapOf(d.l, d.s[begin(d.l, zone)])
		for _, at := range taken {
			if zoneOf(d.l, at) == zone {
				m[at-begin(d.l, zone)] = true
			}
		}
		for _, at := range free {
			if zoneOf(d.l, at) == zone {
				m[at-begin(d.l, zone)] = false
			}
		}
		row = append(row, lie(begin(d.l, zone), mapText(d.l, m)))
	}
	return row
}

// do does a call on a disk.
func (d *shelf) do(c api.Call) api.Reply {
	r, row, _ := ops.Do(d.l, func(at int) string { return d.s[at] }, c)
	d.apply(row)
	return r
}

// on is a disk on which calls were done, none of them with an error, and the tree in which they were.
func on(t *testing.T, l api.Layout, calls ...api.Call) (*shelf, *tree.Tree) {
	t.Helper()
	d, x := newShelf(t, l), tree.New(4*(l.Size-2))
	for _, c := range calls {
		if r, e := d.do(c), x.Do(c).Err; r.Err != api.OK || e != api.OK {
			t.Fatalf("%s: %v, %v", show(c), r.Err, e)
		}
	}
	return d, x
}

// lines are what Lines tells of a disk; it is looked at which sectors it asks for.
func (d *shelf) lines(t *testing.T) ([]api.Line, api.Errno) {
	t.Helper()
	l, e := check.Lines(d.l, func(at int) string {
		if at != 0 && zoneOf(d.l, at) < 0 {
			t.Fatalf("sector %d was asked for", at)
		}
		return d.s[at]
	})
	if e != api.OK && len(l) > 0 {
		t.Fatalf("%v with %d lines", e, len(l))
	}
	return l, e
}

// taken is what Taken tells of one.
func (d *shelf) taken(t *testing.T) int {
	t.Helper()
	return check.Taken(d.l, func(at int) string {
		if zoneOf(d.l, at) < 0 || at != begin(d.l, zoneOf(d.l, at)) {
			t.Fatalf("sector %d was asked for", at)
		}
		return d.s[at]
	})
}

// verdict is what the chapter says of a disk, sentence by sentence: the lines, or what is wrong.
type verdict struct {
	d     *shelf
	nodes map[int]node
	names map[int]int
	below map[int][]api.Entry
	wrong string
}

func (v *verdict) bad(what string, parts ...any) { v.wrong += fmt.Sprintf(what+"; ", parts...) }

// reach reads things till no other one is named.
func (v *verdict) reach() {
	todo := []int{}
	for zone := range 4 {
		todo = append(todo, begin(v.d.l, zone)+1)
	}
	for i := 0; i < len(todo); i++ {
		at := todo[i]
		n, ok := nodeOf(v.d.s[at])
		if !ok {
			v.bad("no thing in %d", at)
			continue
		}
		v.nodes[at] = n
		b := ""
		for _, part := range n.data {
			if !home(v.d.l, part) || len(v.d.s[part]) != 512 {
				v.bad("bytes in %d", part)
				return
			}
			b += v.d.s[part]
		}
		if i < 4 && n.kind != 2 {
			v.bad("zone %d has no folder", i)
		}
		if n.kind == 1 {
			continue
		}
		l, ok := listOf(b[:n.size])
		if !ok {
			v.bad("no list in %d", at)
		}
		v.below[at] = l
		for _, e := range l {
			if i < 4 && sum(e.Name) != i {
				v.bad("%s is no name of zone %d", e.Name, i)
			}
			if !home(v.d.l, e.Sector) {
				v.bad("%s in %d", e.Name, e.Sector)
				return
			}
			if v.names[e.Sector]++; !slices.Contains(todo, e.Sector) {
				todo = append(todo, e.Sector)
			}
		}
	}
}

// reached is a verdict that knows what is to be reached.
func reached(d *shelf) *verdict {
	v := &verdict{d: d, nodes: map[int]node{}, names: map[int]int{}, below: map[int][]api.Entry{}}
	v.reach()
	return v
}

// places looks at each sector of zones.
func (v *verdict) places() {
	owners := map[int]int{}
	for at, n := range v.nodes {
		owners[at]++
		for _, part := range n.data {
			owners[part]++
		}
		if zone := zoneOf(v.d.l, at); at != begin(v.d.l, zone)+1 && v.names[at] != n.links {
			v.bad("%d has %d names", at, v.names[at])
		}
	}
	for zone := range 4 {
		taken, ok := mapOf(v.d.l, v.d.s[begin(v.d.l, zone)])
		if !ok {
			v.bad("no map of zone %d", zone)
		}
		for i := 2; i < v.d.l.Size; i++ {
			if n := owners[begin(v.d.l, zone)+i]; n > 1 || (n == 1) != taken[i] {
				v.bad("%d is %d things', taken: %t", begin(v.d.l, zone)+i, n, taken[i])
			}
		}
	}
}

// lines are those of what was reached.
func (v *verdict) lines() []api.Line {
	at := map[string]int{}
	var down func(folder int, path string)
	down = func(folder int, path string) {
		for _, e := range v.below[folder] {
			at[path+"/"+e.Name] = e.Sector
			down(e.Sector, path+"/"+e.Name)
		}
	}
	for zone := range 4 {
		down(begin(v.d.l, zone)+1, "")
	}
	ids := map[int]int{}
	var l []api.Line
	for _, path := range slices.Sorted(maps.Keys(at)) {
		n := v.nodes[at[path]]
		if n.kind == 2 {
			l = append(l, api.Line{Path: path, Kind: 2})
			continue
		}
		b := ""
		for _, part := range n.data {
			b += v.d.s[part]
		}
		if ids[at[path]] == 0 {
			ids[at[path]] = len(ids) + 1
		}
		l = append(l, api.Line{Path: path, Kind: 1, ID: ids[at[path]], Links: n.links, Data: b[:n.size]})
	}
	return l
}

// of is what the chapter says of a disk.
func of(d *shelf) ([]api.Line, string) {
	v := reached(d)
	b := binary.BigEndian.AppendUint32([]byte("LGS1"), uint32(d.l.Sectors))
	if filled(string(binary.BigEndian.AppendUint16(b, uint16(d.l.Nodes)))) != d.s[0] {
		v.bad("sector 0")
	}
	if v.wrong == "" {
		v.places()
	}
	if v.wrong != "" {
		return nil, v.wrong
	}
	return v.lines(), ""
}

// ofMaps is what the chapter says of how many sectors are taken.
func ofMaps(d *shelf) int {
	n := 0
	for zone := range 4 {
		m, ok := mapOf(d.l, d.s[begin(d.l, zone)])
		if !ok {
			return -1
		}
		for _, is := range m {
			if is {
				n++
			}
		}
	}
	return n - 8
}

// same looks whether what is told of a disk is what the chapter says.
func same(t *testing.T, what string, d *shelf) api.Errno {
	t.Helper()
	l, e := d.lines(t)
	want, wrong := of(d)
	if (e == api.OK) != (wrong == "") || e != api.OK && e != api.ErrBad || !slices.Equal(l, want) {
		t.Fatalf("%s: told %v, %d lines; want %d lines; %.200s", what, e, len(l), len(want), wrong)
	}
	if n, want := d.taken(t), ofMaps(d); n != want {
		t.Fatalf("%s: %d are taken, want %d", what, n, want)
	}
	return e
}

// show is a call in short.
func show(c api.Call) string {
	return fmt.Sprintf("%d %.60q %.60q at %d n %d, %d bytes", c.Op, c.Path, c.To, c.At, c.N, len(c.Data))
}

// The calls, by short names.
func create(path string) api.Call     { return api.Call{Op: api.OpCreate, Path: path} }
func mkdir(path string) api.Call      { return api.Call{Op: api.OpMkdir, Path: path} }
func link(path, to string) api.Call   { return api.Call{Op: api.OpLink, Path: path, To: to} }
func unlink(path string) api.Call     { return api.Call{Op: api.OpUnlink, Path: path} }
func rename(path, to string) api.Call { return api.Call{Op: api.OpRename, Path: path, To: to} }
func write(path string, at int, data string) api.Call {
	return api.Call{Op: api.OpWrite, Path: path, At: at, Data: data}
}

// draws are numbers that look like chance, the same at each run.
type draws uint64

func (d *draws) next() uint32 {
	*d = *d*6364136223846793005 + 1442695040888963407
	return uint32(*d >> 32)
}

func (d *draws) below(n int) int { return int(d.next()>>1) % n }

func pick[T any](d *draws, l ...T) T { return l[d.below(len(l))] }
