package ops_test

import (
	"bytes"
	"encoding/binary"
	"fmt"
	"maps"
	"reflect"
	"slices"
	"strings"
	"testing"

	"lockgate/api"
	"lockgate/ops"
	"lockgate/tree"
)

// sized is the layout of so many sectors and nodes, and ranges of numbers by it, counted here anew.
func sized(sectors, nodes int) api.Layout {
	first := 2 + 40*nodes
	return api.Layout{Sectors: sectors, Nodes: nodes, First: first, Size: min((sectors-first)/4, 4000)}
}

// roomy and small have room for 4 times 98, and 4 times some things and bytes.
var roomy = sized(2+40+400, 1)

func small(each int) api.Layout { return sized(2+40+4*(2+each), 1) }

// room is how many sectors there are for things and their bytes.
func room(l api.Layout) int { return 4 * (l.Size - 2) }

// begin is a zone's first sector; zoneOf is that in which a sector lies, or -1.
func begin(l api.Layout, zone int) int { return l.First + zone*l.Size }

func zoneOf(l api.Layout, sector int) int {
	if sector < l.First || sector >= begin(l, 4) {
		return -1
	}
	return (sector - l.First) / l.Size
}

// filled is a text as it lies in a sector.
func filled(text string) string {
	s := string(binary.BigEndian.AppendUint16(nil, uint16(len(text)))) + text
	return s + strings.Repeat("\x00", 512-len(s))
}

// inodeText and listText are what lies of a thing, and of a folder's names.
func inodeText(kind, links, size int, data []int) string {
	b := []byte("LGI1")
	b = binary.BigEndian.AppendUint16(b, uint16(kind))
	b = binary.BigEndian.AppendUint16(b, uint16(links))
	b = binary.BigEndian.AppendUint32(b, uint32(size))
	for _, at := range data {
		b = binary.BigEndian.AppendUint32(b, uint32(at))
	}
	return string(b)
}

func listText(names map[string]*obj) []byte {
	var b []byte
	for _, name := range slices.Sorted(maps.Keys(names)) {
		b = binary.BigEndian.AppendUint16(b, uint16(len(name)))
		b = append(b, name...)
		b = binary.BigEndian.AppendUint32(b, uint32(names[name].at))
	}
	return b
}

// mapText is a zone's map.
func mapText(taken []bool) string {
	b := make([]byte, (len(taken)+7)/8)
	for i, is := range taken {
		if is {
			b[i/8] |= 1 << (i % 8)
		}
	}
	return string(b)
}

// sumOf is a name's zone.
func sumOf(name string) int {
	n := 0
	for _, b := range []byte(name) {
		n += int(b)
	}
	return n % 4
}

// need is how many sectors so many bytes need.
func need(bytes int) int { return (bytes + 511) / 512 }

// obj is a thing, wherever it lies; a folder's names are what its bytes tell.
type obj struct {
	at, kind, links int
	bytes           []byte
	names           map[string]*obj
	data            []int
}

// world is what should lie on a disk: kept as things, not as sectors.
type world struct {
	l     api.Layout
	tops  [4]*obj
	taken [4][]bool
}

func newWorld(l api.Layout) *world {
	w := &world{l: l}
	for zone := range 4 {
		w.tops[zone] = &obj{at: begin(l, zone) + 1, kind: 2, links: 1, names: map[string]*obj{}}
		w.taken[zone] = make([]bool, l.Size)
		w.taken[zone][0], w.taken[zone][1] = true, true
	}
	return w
}

// objs are all things, each once.
func (w *world) objs() []*obj {
	var all []*obj
	seen := map[*obj]bool{}
	var into func(o *obj)
	into = func(o *obj) {
		if !seen[o] {
			seen[o] = true
			all = append(all, o)
			for _, name := range slices.Sorted(maps.Keys(o.names)) {
				into(o.names[name])
			}
		}
	}
	for _, o := range w.tops {
		into(o)
	}
	return all
}

// text is what bytes a thing has.
func (o *obj) text() []byte {
	if o.kind == 2 {
		return listText(o.names)
	}
	return o.bytes
}

// inode is how a thing lies in its sector; part is one of its bytes' sectors.
func (o *obj) inode() string { return filled(inodeText(o.kind, o.links, len(o.text()), o.data)) }

func (o *obj) part(i int) string {
	b := o.text()[512*i:]
	b = b[:min(512, len(b))]
	return string(b) + strings.Repeat("\x00", 512-len(b))
}

// sectors are all in zones that are taken, as they should lie there.
func (w *world) sectors() map[int]string {
	all := map[int]string{}
	for zone := range 4 {
		all[begin(w.l, zone)] = filled(mapText(w.taken[zone]))
	}
	for _, o := range w.objs() {
		all[o.at] = o.inode()
		for i, at := range o.data {
			all[at] = o.part(i)
		}
	}
	return all
}

// freeIn are how many places of a zone are free; free of all.
func (w *world) freeIn(zone int) int {
	n := 0
	for _, is := range w.taken[zone] {
		if !is {
			n++
		}
	}
	return n
}

func (w *world) free() int { return w.freeIn(0) + w.freeIn(1) + w.freeIn(2) + w.freeIn(3) }

// run is a call under way in a world: which sectors are asked for, and which are written.
type run struct {
	*world
	asked, wrote map[int]bool
	back         []int
}

func (r *run) ask(sectors ...int) {
	for _, at := range sectors {
		r.asked[at] = true
	}
}

// place is where a name stands, or would: the folder, the name, and what has it.
type place struct {
	in   *obj
	name string
	has  *obj
}

// spot walks all names of a path but the last one.
func (r *run) spot(path string) (place, api.Errno) {
	names := strings.Split(path[1:], "/")
	var at *obj // the root
	for i, name := range names {
		in := at
		if at == nil {
			in = r.tops[sumOf(name)]
			r.ask(in.at)
		}
		if in.kind == 1 {
			return place{}, api.ErrNotDir
		}
		r.ask(in.data...)
		at = in.names[name]
		if i == len(names)-1 {
			return place{in, name, at}, api.OK
		}
		if at == nil {
			return place{}, api.ErrNone
		}
		r.ask(at.at)
	}
	panic("a path without names")
}

// walk walks all names of a path; nothing is told of the root.
func (r *run) walk(path string) (place, api.Errno) {
	if path == "/" {
		return place{}, api.OK
	}
	p, e := r.spot(path)
	if e == api.OK && p.has == nil {
		e = api.ErrNone
	}
	if e == api.OK {
		r.ask(p.has.at)
	}
	return p, e
}

// take takes sectors from a zone on.
func (r *run) take(zone, n int) ([]int, bool) {
	var got []int
	open := 0
	for i := 0; i < 4 && open < n; i++ {
		r.ask(begin(r.l, (zone+i)%4))
		open += r.freeIn((zone + i) % 4)
	}
	if open < n {
		return nil, false
	}
	for at := zone; len(got) < n; at = (at + 1) % 4 {
		for place, is := range r.taken[at] {
			if !is && len(got) < n {
				r.taken[at][place] = true
				r.wrote[begin(r.l, at)] = true
				got = append(got, begin(r.l, at)+place)
			}
		}
	}
	return got, true
}

// setData gives a thing as many sectors as its bytes need; it is written, and parts of its bytes, from one byte up to another one.
func (r *run) setData(o *obj, more []int, from, to int) {
	o.data = append(slices.Clone(o.data), more...)
	n := need(len(o.text()))
	r.back = append(r.back, o.data[n:]...)
	o.data = o.data[:n]
	r.wrote[o.at] = true
	for i, at := range o.data {
		if 512*i < to && from < 512*(i+1) && from < to {
			r.wrote[at] = true
		}
	}
}

// setNames is setData of a folder, all of whose names are written.
func (r *run) setNames(o *obj, more []int) { r.setData(o, more, 0, len(o.text())) }

// settle gives back what is needed no more.
func (r *run) settle() {
	for _, at := range r.back {
		zone := zoneOf(r.l, at)
		r.taken[zone][at-begin(r.l, zone)] = false
		r.ask(begin(r.l, zone))
		r.wrote[begin(r.l, zone)] = true
	}
}

// roomIn takes what a list needs for so many bytes, and some sectors beside.
func (r *run) roomIn(o *obj, size, beside int) ([]int, api.Errno) {
	if size > 6144 {
		return nil, api.ErrSize
	}
	got, ok := r.take(zoneOf(r.l, o.at), need(size)-len(o.data)+beside)
	if !ok {
		return nil, api.ErrFull
	}
	return got, api.OK
}

func (r *run) create(c api.Call) api.Errno {
	p, e := r.spot(c.Path)
	if e == api.OK && p.has != nil {
		e = api.ErrExist
	}
	if e != api.OK {
		return e
	}
	got, e := r.roomIn(p.in, len(p.in.text())+6+len(p.name), 1)
	if e != api.OK {
		return e
	}
	o := &obj{at: got[len(got)-1], kind: c.Op, links: 1} // the ops have the kinds' numbers
	if c.Op == api.OpMkdir {
		o.names = map[string]*obj{}
	}
	p.in.names[p.name] = o
	r.setNames(p.in, got[:len(got)-1])
	r.setData(o, nil, 0, 0)
	return api.OK
}

func (r *run) link(c api.Call) api.Errno {
	p, e := r.walk(c.Path)
	switch {
	case e != api.OK:
		return e
	case p.has.kind == 2:
		return api.ErrDir
	case p.has.links == 1000:
		return api.ErrSize
	}
	to, e := r.spot(c.To)
	if e == api.OK && to.has != nil {
		e = api.ErrExist
	}
	if e != api.OK {
		return e
	}
	got, e := r.roomIn(to.in, len(to.in.text())+6+len(to.name), 0)
	if e != api.OK {
		return e
	}
	to.in.names[to.name] = p.has
	r.setNames(to.in, got)
	p.has.links++
	r.setData(p.has, nil, 0, 0)
	return api.OK
}

func (r *run) unlink(c api.Call) api.Errno {
	p, e := r.walk(c.Path)
	if e == api.OK && len(p.has.names) > 0 {
		e = api.ErrEmpty
	}
	if e != api.OK {
		return e
	}
	delete(p.in.names, p.name)
	r.setNames(p.in, nil)
	p.has.links--
	if p.has.links > 0 {
		r.setData(p.has, nil, 0, 0)
	} else {
		r.back = append(append(r.back, p.has.at), p.has.data...)
	}
	return api.OK
}

func (r *run) rename(c api.Call) api.Errno {
	p, e := r.walk(c.Path)
	if e != api.OK {
		return e
	}
	to, e := r.spot(c.To)
	switch {
	case e != api.OK:
		return e
	case to.has != nil:
		return api.ErrExist
	case strings.HasPrefix(c.To, c.Path+"/"):
		return api.ErrArg
	}
	size := len(to.in.text()) + 6 + len(to.name)
	if to.in == p.in {
		size -= 6 + len(p.name)
	}
	got, e := r.roomIn(to.in, size, 0)
	if e != api.OK {
		return e
	}
	delete(p.in.names, p.name)
	to.in.names[to.name] = p.has
	if to.in != p.in {
		r.setNames(p.in, nil)
	}
	r.setNames(to.in, got)
	return api.OK
}

// file walks to a file.
func (r *run) file(path string) (*obj, api.Errno) {
	p, e := r.walk(path)
	if e == api.OK && (p.has == nil || p.has.kind == 2) {
		e = api.ErrDir
	}
	return p.has, e
}

// change gives a file other bytes, which are written from one on up to another one.
func (r *run) change(o *obj, b []byte, from, to int) api.Errno {
	got, ok := r.take(zoneOf(r.l, o.at), need(len(b))-len(o.data))
	if !ok {
		return api.ErrFull
	}
	// What isn't written in a sector stays: it must be known.
	for i, at := range o.data {
		if first, end := max(from, 512*i), min(to, 512*(i+1)); first < end && end-first < 512 {
			r.ask(at)
		}
	}
	o.bytes = b
	r.setData(o, got, from, to)
	return api.OK
}

func (r *run) write(c api.Call) api.Errno {
	o, e := r.file(c.Path)
	if e != api.OK {
		return e
	}
	b := slices.Clone(o.bytes)
	for len(b) < c.At+len(c.Data) {
		b = append(b, 0)
	}
	copy(b[c.At:], c.Data)
	return r.change(o, b, min(c.At, len(o.bytes)), c.At+len(c.Data))
}

func (r *run) truncate(c api.Call) api.Errno {
	o, e := r.file(c.Path)
	if e != api.OK {
		return e
	}
	b := append(slices.Clone(o.bytes), make([]byte, 6144)...)[:c.N]
	to := c.N
	for to < len(o.bytes) && to%512 != 0 {
		to++
	}
	return r.change(o, b, min(c.N, len(o.bytes)), to)
}

// told is what calls that only ask tell, but OpSync.
func (r *run) told(c api.Call) api.Reply {
	if c.Op == api.OpStatfs {
		r.ask(begin(r.l, 0), begin(r.l, 1), begin(r.l, 2), begin(r.l, 3))
		return api.Reply{Free: r.free()}
	}
	if c.Op == api.OpRead {
		o, e := r.file(c.Path)
		if e != api.OK {
			return api.Reply{Err: e}
		}
		from := min(c.At, len(o.bytes))
		to := from + min(c.N, len(o.bytes)-from)
		for i := from; i < to; i++ {
			r.ask(o.data[i/512])
		}
		return api.Reply{Data: string(o.bytes[from:to])}
	}
	p, e := r.walk(c.Path)
	if e != api.OK {
		return api.Reply{Err: e}
	}
	parts := []*obj{p.has}
	if p.has == nil {
		parts = r.tops[:]
	}
	t := api.Reply{Kind: parts[0].kind, Links: parts[0].links}
	if c.Op == api.OpReaddir && t.Kind == 1 {
		return api.Reply{Err: api.ErrNotDir}
	}
	for _, o := range parts {
		r.ask(o.at)
		if t.Size += len(o.text()); c.Op == api.OpReaddir {
			r.ask(o.data...)
			t.Names = append(t.Names, slices.Collect(maps.Keys(o.names))...)
		}
	}
	if c.Op == api.OpReaddir {
		slices.Sort(t.Names)
		return api.Reply{Names: t.Names}
	}
	return t
}

// do is what the chapter says of a call: what is told, which sectors are written, and which ones asked for. What the call's own fields bring is asked of a tree with nothing in it.
func (w *world) do(c api.Call) (api.Reply, *run) {
	r := &run{world: w, asked: map[int]bool{}, wrote: map[int]bool{}}
	if e := tree.New(0).Do(c).Err; e == api.ErrArg || e == api.ErrSize || c.Op == api.OpSync {
		return api.Reply{Err: e}, r
	}
	var e api.Errno
	switch c.Op {
	case api.OpCreate, api.OpMkdir:
		e = r.create(c)
	case api.OpLink:
		e = r.link(c)
	case api.OpUnlink:
		e = r.unlink(c)
	case api.OpRename:
		e = r.rename(c)
	case api.OpWrite:
		e = r.write(c)
	case api.OpTruncate:
		e = r.truncate(c)
	default:
		return r.told(c), r
	}
	if e == api.OK {
		r.settle()
	}
	return api.Reply{Err: e}, r
}

// row is what a run wrote, as it is to lie there.
func (r *run) row() []api.Change {
	var l []api.Change
	all := r.sectors()
	for _, at := range slices.Sorted(maps.Keys(r.wrote)) {
		l = append(l, api.Change{Sector: at, S: all[at]})
	}
	return l
}

// modes are those of sectors that were asked for, and of such as are written.
func modes(l api.Layout, asked map[int]bool, row []api.Change) []int {
	m := make([]int, 4)
	for at := range asked {
		m[zoneOf(l, at)] = 1
	}
	for _, c := range row {
		m[zoneOf(l, c.Sector)] = 2
	}
	return m
}

// shelf is a disk, and what was asked of it lately.
type shelf struct {
	l     api.Layout
	s     []string
	asked map[int]bool
}

func newShelf(t *testing.T, l api.Layout) *shelf {
	t.Helper()
	d := &shelf{l: l, s: make([]string, l.Sectors)}
	for i := range d.s {
		d.s[i] = strings.Repeat("\x00", 512)
	}
	row, e := ops.Format(l)
	if e != api.OK {
		t.Fatalf("Format(%v): %v", l, e)
	}
	d.apply(row)
	return d
}

func (d *shelf) apply(row []api.Change) {
	for _, c := range row {
		d.s[c.Sector] = c.S
	}
}

func (d *shelf) copied() *shelf { return &shelf{l: d.l, s: slices.Clone(d.s)} }

// do does a call, without anything's coming to lie there. What holds of each call is looked at.
func (d *shelf) do(t *testing.T, c api.Call) (api.Reply, []api.Change, []int) {
	t.Helper()
	d.asked = map[int]bool{}
	r, row, m := ops.Do(d.l, func(at int) string {
		if zoneOf(d.l, at) < 0 {
			t.Fatalf("%s: sector %d was asked for", show(c), at)
		}
		d.asked[at] = true
		return d.s[at]
	}, c)
	last := -1
	for _, x := range row {
		if x.Sector <= last || len(x.S) != 512 || zoneOf(d.l, x.Sector) < 0 {
			t.Fatalf("%s: of %d changes one of sector %d behind one of %d, with %d bytes", show(c), len(row), x.Sector, last, len(x.S))
		}
		last = x.Sector
	}
	if len(row) > 37 || r.Err != api.OK && len(row) > 0 {
		t.Fatalf("%s: %v with %d changes", show(c), r.Err, len(row))
	}
	if want := modes(d.l, d.asked, row); !slices.Equal(m, want) {
		t.Fatalf("%s: modes %v, want %v", show(c), m, want)
	}
	if r.Err != api.OK && !equal(r, api.Reply{Err: r.Err}) {
		t.Fatalf("%s: %s", show(c), short(r))
	}
	return r, row, m
}

// trio is a disk, the world that should lie on it, and the tree.
type trio struct {
	d *shelf
	w *world
	x *tree.Tree
}

// on are a new disk, world and tree, in which calls were done, none of them with an error.
func on(t *testing.T, l api.Layout, calls ...api.Call) *trio {
	t.Helper()
	p := &trio{newShelf(t, l), newWorld(l), tree.New(room(l))}
	for _, c := range calls {
		if r := p.do(t, c); r.Err != api.OK {
			t.Fatalf("%s: %v", show(c), r.Err)
		}
	}
	return p
}

// do does a call in all three, and looks whether they tell the same, and the same lies there.
func (p *trio) do(t *testing.T, c api.Call) api.Reply {
	t.Helper()
	r, row, _ := p.d.do(t, c)
	if want := p.x.Do(c); !equal(r, want) {
		t.Fatalf("%s: told %s, the tree tells %s", show(c), short(r), short(want))
	}
	want, run := p.w.do(c)
	if !equal(r, want) {
		t.Fatalf("%s: told %s, want %s", show(c), short(r), short(want))
	}
	if !maps.Equal(p.d.asked, run.asked) {
		t.Fatalf("%s: asked for %v, want %v", show(c), sorted(p.d.asked), sorted(run.asked))
	}
	p.d.apply(row)
	if r.Err != api.OK {
		return r
	}
	if l := run.row(); !slices.Equal(row, l) {
		t.Fatalf("%s: changes %v, want %v", show(c), places(row), places(l))
	}
	return r
}

// each does each of some calls in copies.
func (p *trio) each(t *testing.T, calls []api.Call) {
	t.Helper()
	for _, c := range calls {
		r, row, _ := p.d.do(t, c)
		x := p.x.Copy()
		if want := x.Do(c); !equal(r, want) {
			t.Fatalf("%s: told %s, want %s", show(c), short(r), short(want))
		}
		if len(row) > 0 {
			d := p.d.copied()
			d.apply(row)
			lies(t, show(c), d, x)
		}
	}
}

// whole looks whether just that lies on the disk that should, and that the world is the tree's.
func (p *trio) whole(t *testing.T, what string) {
	t.Helper()
	for at, s := range p.w.sectors() {
		if p.d.s[at] != s {
			t.Fatalf("%s: in sector %d lies %.40q, want %.40q", what, at, p.d.s[at], s)
		}
	}
	lies(t, what, p.d, p.x)
}

// lies looks whether on a disk there lies a tree; the disk is read here anew, all of it.
func lies(t *testing.T, what string, d *shelf, x *tree.Tree) {
	t.Helper()
	l, used, e := linesOf(d)
	if e != "" {
		t.Fatalf("%s: %s", what, e)
	}
	if want := x.All(); !slices.Equal(l, want) {
		t.Fatalf("%s: on the disk lies %.60q, want %.60q", what, fmt.Sprint(l), fmt.Sprint(want))
	}
	if free := room(d.l) - used; free != x.Free() {
		t.Fatalf("%s: %d free, want %d", what, free, x.Free())
	}
}

// reader reads a disk.
type reader struct {
	d     *shelf
	owner map[int]string // by whom a sector is taken
	links map[int]int
	named map[int]int
	lines []api.Line
	file  map[string]int
	wrong string
}

// linesOf is the tree on a disk, how many sectors it uses, or what is wrong there.
func linesOf(d *shelf) ([]api.Line, int, string) {
	r := &reader{d: d, owner: map[int]string{}, links: map[int]int{}, named: map[int]int{}, file: map[string]int{}}
	for zone := range 4 {
		r.folder(begin(d.l, zone)+1, "", zone)
	}
	for zone := range 4 {
		text, ok := unfilled(d.s[begin(d.l, zone)])
		taken := make([]bool, d.l.Size)
		for i := range taken {
			_, used := r.owner[begin(d.l, zone)+i]
			taken[i] = i < 2 || used
		}
		if !ok || text != mapText(taken) {
			r.wrong += fmt.Sprintf("zone %d's map is %x, want %x;", zone, text, mapText(taken))
		}
	}
	for at, n := range r.links {
		if r.named[at] != n {
			r.wrong += fmt.Sprintf("the file at %d has %d names, not %d;", at, r.named[at], n)
		}
	}
	slices.SortFunc(r.lines, func(a, b api.Line) int { return strings.Compare(a.Path, b.Path) })
	ids := map[int]int{}
	for i, l := range r.lines {
		if at := r.file[l.Path]; l.Kind == 1 {
			if ids[at] == 0 {
				ids[at] = len(ids) + 1
			}
			r.lines[i].ID = ids[at]
		}
	}
	return r.lines, len(r.owner), r.wrong
}

// unfilled is the text in a sector.
func unfilled(s string) (string, bool) {
	n := int(s[0])<<8 + int(s[1])
	return s[2:min(2+n, 512)], n <= 510 && strings.Trim(s[2+n:], "\x00") == ""
}

// own marks a sector as taken.
func (r *reader) own(at int, path string) {
	if zone := zoneOf(r.d.l, at); zone < 0 || at-begin(r.d.l, zone) < 2 {
		r.wrong += fmt.Sprintf("%s lies in sector %d;", path, at)
	}
	if other, ok := r.owner[at]; ok {
		r.wrong += fmt.Sprintf("sector %d is of %q and %q;", at, other, path)
	}
	r.owner[at] = path
}

// thing reads what lies in a sector: its kind, links and bytes.
func (r *reader) thing(at int, path string) (int, int, string) {
	text, ok := unfilled(r.d.s[at])
	if !ok || len(text) < 12 || text[:4] != "LGI1" {
		r.wrong += fmt.Sprintf("at %d for %q lies %.20q;", at, path, text)
		return 0, 0, ""
	}
	u := func(i, n int) int {
		v := 0
		for _, b := range []byte(text[i : i+n]) {
			v = v<<8 + int(b)
		}
		return v
	}
	kind, links, size := u(4, 2), u(6, 2), u(8, 4)
	if len(text) != 12+4*need(size) {
		r.wrong += fmt.Sprintf("%q has %d bytes, with a text of %d;", path, size, len(text))
		return kind, links, ""
	}
	var b strings.Builder
	for i := 12; i < len(text); i += 4 {
		if r.owner[u(i, 4)] != path || kind == 2 {
			r.own(u(i, 4), path)
		}
		if zoneOf(r.d.l, u(i, 4)) >= 0 {
			b.WriteString(r.d.s[u(i, 4)])
		}
	}
	if strings.Trim(b.String()[min(size, b.Len()):], "\x00") != "" {
		r.wrong += fmt.Sprintf("behind the bytes of %q lies something;", path)
	}
	return kind, links, b.String()[:min(size, b.Len())]
}

// folder reads a folder, and what is in it.
func (r *reader) folder(at int, path string, zone int) {
	kind, links, list := r.thing(at, path+"/")
	if kind != 2 || links != 1 {
		r.wrong += fmt.Sprintf("%q is no folder;", path)
	}
	last := ""
	for len(list) > 2 {
		n := int(list[1])
		name, s := list[2:2+n], list[2+n:]
		sector := int(s[0])<<24 + int(s[1])<<16 + int(s[2])<<8 + int(s[3])
		if name <= last || zone >= 0 && sumOf(name) != zone {
			r.wrong += fmt.Sprintf("%q stands in %q behind %q;", name, path, last)
		}
		r.named[sector]++
		r.enter(sector, path+"/"+name)
		last, list = name, s[4:]
	}
}

// enter reads what has a path.
func (r *reader) enter(at int, path string) {
	if text, _ := unfilled(r.d.s[at]); len(text) > 5 && text[5] == 2 {
		r.own(at, path)
		r.lines = append(r.lines, api.Line{Path: path, Kind: 2})
		r.folder(at, path, -1)
		return
	}
	first := "file " + fmt.Sprint(at)
	if r.named[at] == 1 {
		r.own(at, first)
	}
	_, links, b := r.thing(at, first)
	r.links[at] = links
	r.file[path] = at
	r.lines = append(r.lines, api.Line{Path: path, Kind: 1, Links: links, Data: b})
}

// sorted are the sectors of a set; places those of a row.
func sorted(m map[int]bool) []int { return slices.Sorted(maps.Keys(m)) }

func places(row []api.Change) []int {
	l := []int{}
	for _, c := range row {
		l = append(l, c.Sector)
	}
	return l
}

// equal tells whether two replies say the same; nothing may be nil or empty.
func equal(a, b api.Reply) bool {
	names := slices.Equal(a.Names, b.Names)
	a.Names, b.Names = nil, nil
	return names && reflect.DeepEqual(a, b)
}

// show is a call in short; short is a reply.
func show(c api.Call) string {
	return fmt.Sprintf("%d %.60q %.60q at %d n %d, %d bytes", c.Op, c.Path, c.To, c.At, c.N, len(c.Data))
}

func short(r api.Reply) string {
	return fmt.Sprintf("error %d, %.40q of %d, %.60q, kind %d, %d names, %d bytes, %d free", int(r.Err), r.Data, len(r.Data), fmt.Sprint(r.Names), r.Kind, r.Links, r.Size, r.Free)
}

// The calls, by short names.
func create(path string) api.Call          { return api.Call{Op: api.OpCreate, Path: path} }
func mkdir(path string) api.Call           { return api.Call{Op: api.OpMkdir, Path: path} }
func link(path, to string) api.Call        { return api.Call{Op: api.OpLink, Path: path, To: to} }
func unlink(path string) api.Call          { return api.Call{Op: api.OpUnlink, Path: path} }
func rename(path, to string) api.Call      { return api.Call{Op: api.OpRename, Path: path, To: to} }
func read(path string, at, n int) api.Call { return api.Call{Op: api.OpRead, Path: path, At: at, N: n} }
func write(path string, at int, data string) api.Call {
	return api.Call{Op: api.OpWrite, Path: path, At: at, Data: data}
}
func truncate(path string, n int) api.Call { return api.Call{Op: api.OpTruncate, Path: path, N: n} }
func readdir(path string) api.Call         { return api.Call{Op: api.OpReaddir, Path: path} }
func stat(path string) api.Call            { return api.Call{Op: api.OpStat, Path: path} }
func statfs() api.Call                     { return api.Call{Op: api.OpStatfs} }

// name is a name of n bytes, which no other i has, of a zone that follows from i.
func name(n, i int) string {
	const letters = "abcdefghijklmnopqrstuvwxyzABCDEFGHIJKLMNOPQRSTUVWXYZ0123456789_"
	b := bytes.Repeat([]byte{'x'}, n)
	for at := range min(n, 3) {
		b[at] = letters[i%len(letters)]
		i /= len(letters)
	}
	return string(b)
}

// mixed are n bytes, of all values.
func mixed(n int) string {
	b := make([]byte, n)
	for i := range b {
		b[i] = byte(i*7 + i/256 + 1)
	}
	return string(b)
}

// draws are numbers that look like chance, the same at each run.
type draws uint64

func (d *draws) next() uint32 {
	*d = *d*6364136223846793005 + 1442695040888963407
	return uint32(*d >> 32)
}

func (d *draws) below(n int) int { return int(d.next()>>1) % n }

func pick[T any](d *draws, l ...T) T { return l[d.below(len(l))] }
