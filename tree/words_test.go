package tree_test

import (
	"bytes"
	"fmt"
	"maps"
	"math"
	"reflect"
	"regexp"
	"slices"
	"strings"
	"testing"

	"lockgate/api"
	"lockgate/tree"
)

// paths are texts that chapter 15 calls paths.
var paths = regexp.MustCompile(`^(/|(/[a-zA-Z0-9._-]{1,30}){1,8})\z`)

func isPath(s string) bool {
	names := strings.Split(s, "/")
	return paths.MatchString(s) && !slices.Contains(names, ".") && !slices.Contains(names, "..")
}

// node is a file or a folder; each of its names has the same one.
type node struct {
	file bool
	data []byte
}

// model is a tree that is kept in another way: what lies at each path, the root's left out, and nothing beside it.
type model struct {
	room int
	at   map[string]*node
}

func newModel(room int) *model { return &model{room, map[string]*node{}} }

// parent and last are what stands ahead of a path's last name, and that name.
func parent(path string) string { return path[:strings.LastIndexByte(path, '/')] }
func last(path string) string   { return path[strings.LastIndexByte(path, '/')+1:] }

// list is the one in which a path's last name stands, or would.
func list(path string) string {
	if parent(path) != "" {
		return parent(path)
	}
	sum := 0
	for _, b := range []byte(path[1:]) {
		sum += int(b)
	}
	return string(rune('0' + sum%4))
}

// need is how many sectors so many bytes need.
func need(bytes int) int { return (bytes + 511) / 512 }

// lists are how many bytes each list has that has some.
func (m *model) lists() map[string]int {
	l := map[string]int{}
	for path := range m.at {
		l[list(path)] += 6 + len(last(path))
	}
	return l
}

// free is counted anew each time.
func (m *model) free() int {
	free, seen := m.room, map[*node]bool{}
	for _, x := range m.at {
		if !seen[x] {
			free -= 1 + need(len(x.data))
		}
		seen[x] = true
	}
	for _, size := range m.lists() {
		free -= need(size)
	}
	return free
}

// links are how many names a thing has.
func (m *model) links(x *node) int {
	n := 0
	for _, y := range m.at {
		if x == y {
			n++
		}
	}
	return n
}

// walk tells what walking a path brings: it stands there, if OK is told.
func (m *model) walk(path string) api.Errno {
	for i := 1; i <= len(path); i++ {
		if i < len(path) && path[i] != '/' || path == "/" {
			continue
		}
		if x := m.at[parent(path[:i])]; x != nil && x.file {
			return api.ErrNotDir
		}
		if m.at[path[:i]] == nil {
			return api.ErrNone
		}
	}
	return api.OK
}

// spot tells whether something may come to a path where nothing is.
func (m *model) spot(path string) api.Errno {
	if e := m.walk(parent(path)); e != api.OK {
		return e
	}
	if x := m.at[parent(path)]; x != nil && x.file {
		return api.ErrNotDir
	}
	if m.at[path] != nil {
		return api.ErrExist
	}
	return api.OK
}

// roomFor tells whether there is room for a list of that size in the place of the one of a path, and for so many sectors beside.
func (m *model) roomFor(path string, size, beside int) api.Errno {
	if size > 6144 {
		return api.ErrSize
	}
	if need(size)-need(m.lists()[list(path)])+beside > m.free() {
		return api.ErrFull
	}
	return api.OK
}

// ahead tells what the call's own fields bring.
func ahead(c api.Call) api.Errno {
	is := func(ops ...int) bool { return slices.Contains(ops, c.Op) }
	switch {
	case c.Op < 1 || c.Op > 12,
		!is(11, 12) && !isPath(c.Path), is(3, 5) && !isPath(c.To),
		is(1, 2, 3, 4, 5) && c.Path == "/", is(3, 5) && c.To == "/",
		is(6) && (c.At < 0 || c.N < 0 || c.N > 6144), is(7) && c.At < 0, is(8) && c.N < 0:
		return api.ErrArg
	case is(7) && (c.At > 6144 || c.At+len(c.Data) > 6144), is(8) && c.N > 6144:
		return api.ErrSize
	}
	return api.OK
}

// do is what the chapter says of a call.
func (m *model) do(c api.Call) api.Reply {
	e := ahead(c)
	switch {
	case e != api.OK || c.Op == api.OpSync:
		return api.Reply{Err: e}
	case c.Op == api.OpStatfs:
		return api.Reply{Free: m.free()}
	case c.Op == api.OpCreate || c.Op == api.OpMkdir:
		return api.Reply{Err: m.create(c.Path, c.Op == api.OpCreate)}
	}
	if e := m.walk(c.Path); e != api.OK {
		return api.Reply{Err: e}
	}
	x := m.at[c.Path] // nothing, if it is the root
	switch c.Op {
	case api.OpLink:
		return api.Reply{Err: m.link(x, c.To)}
	case api.OpUnlink:
		return api.Reply{Err: m.unlink(x, c.Path)}
	case api.OpRename:
		return api.Reply{Err: m.rename(x, c.Path, c.To)}
	case api.OpReaddir:
		return m.readdir(x, c.Path)
	case api.OpStat:
		return m.stat(x, c.Path)
	}
	if x == nil || !x.file {
		return api.Reply{Err: api.ErrDir}
	}
	switch c.Op {
	case api.OpRead:
		l := []byte{}
		for i := range c.N {
			if c.At < len(x.data)-i {
				l = append(l, x.data[c.At+i])
			}
		}
		return api.Reply{Data: string(l)}
	case api.OpWrite:
		to := slices.Clone(x.data)
		for len(to) < c.At+len(c.Data) {
			to = append(to, 0)
		}
		for i := range len(c.Data) {
			to[c.At+i] = c.Data[i]
		}
		return api.Reply{Err: m.put(x, to)}
	}
	to := append(slices.Clone(x.data), bytes.Repeat([]byte{0}, 6144)...)[:c.N]
	return api.Reply{Err: m.put(x, to)}
}

func (m *model) create(path string, file bool) api.Errno {
	e := m.spot(path)
	if e == api.OK {
		e = m.roomFor(path, m.lists()[list(path)]+6+len(last(path)), 1)
	}
	if e == api.OK {
		m.at[path] = &node{file: file}
	}
	return e
}

func (m *model) link(x *node, to string) api.Errno {
	if !x.file {
		return api.ErrDir
	}
	if m.links(x) == 1000 {
		return api.ErrSize
	}
	e := m.spot(to)
	if e == api.OK {
		e = m.roomFor(to, m.lists()[list(to)]+6+len(last(to)), 0)
	}
	if e == api.OK {
		m.at[to] = x
	}
	return e
}

func (m *model) unlink(x *node, path string) api.Errno {
	for p := range m.at {
		if parent(p) == path {
			return api.ErrEmpty
		}
	}
	delete(m.at, path)
	return api.OK
}

func (m *model) rename(x *node, path, to string) api.Errno {
	e := m.spot(to)
	if e == api.OK && !x.file && strings.HasPrefix(to, path+"/") {
		e = api.ErrArg
	}
	if e != api.OK {
		return e
	}
	size := m.lists()[list(to)] + 6 + len(last(to))
	if list(to) == list(path) {
		size -= 6 + len(last(path))
	}
	if e := m.roomFor(to, size, 0); e != api.OK {
		return e
	}
	now := map[string]*node{}
	for p, y := range m.at {
		if p == path || strings.HasPrefix(p, path+"/") {
			p = to + p[len(path):]
		}
		now[p] = y
	}
	m.at = now
	return api.OK
}

func (m *model) readdir(x *node, path string) api.Reply {
	if x != nil && x.file {
		return api.Reply{Err: api.ErrNotDir}
	}
	var l []string
	for p := range m.at {
		if parent(p) == strings.TrimSuffix(path, "/") {
			l = append(l, last(p))
		}
	}
	slices.Sort(l)
	return api.Reply{Names: l}
}

func (m *model) stat(x *node, path string) api.Reply {
	if x != nil && x.file {
		return api.Reply{Kind: 1, Links: m.links(x), Size: len(x.data)}
	}
	size := 0
	for _, name := range m.readdir(x, path).Names {
		size += 6 + len(name)
	}
	return api.Reply{Kind: 2, Links: 1, Size: size}
}

// put gives a file other bytes.
func (m *model) put(x *node, to []byte) api.Errno {
	if need(len(to))-need(len(x.data)) > m.free() {
		return api.ErrFull
	}
	x.data = to
	return api.OK
}

// all are the lines of the model's tree.
func (m *model) all() []api.Line {
	ids := map[*node]int{}
	var l []api.Line
	for _, path := range slices.Sorted(maps.Keys(m.at)) {
		x := m.at[path]
		if !x.file {
			l = append(l, api.Line{Path: path, Kind: 2})
			continue
		}
		if ids[x] == 0 {
			ids[x] = len(ids) + 1
		}
		l = append(l, api.Line{Path: path, Kind: 1, ID: ids[x], Links: m.links(x), Data: string(x.data)})
	}
	return l
}

// copied is another model, the same.
func (m *model) copied() *model {
	n, nodes := newModel(m.room), map[*node]*node{}
	for path, x := range m.at {
		if nodes[x] == nil {
			nodes[x] = &node{x.file, slices.Clone(x.data)}
		}
		n.at[path] = nodes[x]
	}
	return n
}

// equal tells whether two replies say the same; nothing may be nil or empty.
func equal(a, b api.Reply) bool {
	names := slices.Equal(a.Names, b.Names)
	a.Names, b.Names = nil, nil
	return names && reflect.DeepEqual(a, b)
}

// same looks whether a tree is that of the model.
func same(t *testing.T, what string, x *tree.Tree, m *model) {
	t.Helper()
	if x.Free() != m.free() {
		t.Fatalf("%s: %d free, want %d", what, x.Free(), m.free())
	}
	if l := x.All(); !slices.Equal(l, m.all()) {
		t.Fatalf("%s: the tree is %.60v, want %.60v", what, l, m.all())
	}
}

// both does a call in a tree and in the model.
func both(t *testing.T, x *tree.Tree, m *model, c api.Call) api.Reply {
	t.Helper()
	r, want := x.Do(c), m.do(c)
	if !equal(r, want) {
		t.Fatalf("%s: told %s, want %s", show(c), short(r), short(want))
	}
	return r
}

// made is a tree in which calls were done, none of them with an error.
func made(t *testing.T, room int, calls ...api.Call) *tree.Tree {
	t.Helper()
	x := tree.New(room)
	for _, c := range calls {
		if r := x.Do(c); r.Err != api.OK {
			t.Fatalf("%s: %v", show(c), r.Err)
		}
	}
	return x
}

// show is a call in short.
func show(c api.Call) string {
	return fmt.Sprintf("%d %.60q %.60q at %d n %d, %d bytes", c.Op, c.Path, c.To, c.At, c.N, len(c.Data))
}

// short is a reply in short.
func short(r api.Reply) string {
	return fmt.Sprintf("error %d, %.60q, %.60q, kind %d, %d names, %d bytes, %d free", int(r.Err), r.Data, fmt.Sprint(r.Names), r.Kind, r.Links, r.Size, r.Free)
}

// twins are a tree and a model in which the same calls were done, none of them with an error.
func twins(t *testing.T, room int, calls ...api.Call) (*tree.Tree, *model) {
	t.Helper()
	m := newModel(room)
	for _, c := range calls {
		if r := m.do(c); r.Err != api.OK {
			t.Fatalf("%s: %v", show(c), r.Err)
		}
	}
	x := made(t, room, calls...)
	same(t, "twins", x, m)
	return x, m
}

// told looks what calls tell, one behind the other: errors alone.
func told(t *testing.T, x *tree.Tree, calls []api.Call, want ...api.Errno) {
	t.Helper()
	for i, c := range calls {
		if r := x.Do(c); !equal(r, api.Reply{Err: want[i]}) {
			t.Errorf("call %d, %s: told %s, want %v", i, show(c), short(r), want[i])
		}
	}
}

// The calls, by short names.
func create(path string) api.Call          { return api.Call{Op: api.OpCreate, Path: path} }
func mkdir(path string) api.Call           { return api.Call{Op: api.OpMkdir, Path: path} }
func link(path, to string) api.Call        { return api.Call{Op: api.OpLink, Path: path, To: to} }
func unlink(path string) api.Call          { return api.Call{Op: api.OpUnlink, Path: path} }
func rename(path, to string) api.Call      { return api.Call{Op: api.OpRename, Path: path, To: to} }
func read(path string, at, n int) api.Call { return api.Call{Op: api.OpRead, Path: path, At: at, N: n} }
func write(path string, at int, data string) api.Call {
	return api.Call{Op: api.OpWrite, Path: path, At: at, Data: data}
}
func truncate(path string, n int) api.Call { return api.Call{Op: api.OpTruncate, Path: path, N: n} }
func readdir(path string) api.Call         { return api.Call{Op: api.OpReaddir, Path: path} }
func stat(path string) api.Call            { return api.Call{Op: api.OpStat, Path: path} }
func statfs() api.Call                     { return api.Call{Op: api.OpStatfs} }

// far are numbers far off.
var far = []int{math.MinInt, -1 << 40, -1 << 32, 1<<32 + 1, 1 << 40, math.MaxInt}

// name is a name of n bytes, which no other i has, and without a dash.
func name(n, i int) string {
	const letters = "abcdefghijklmnopqrstuvwxyzABCDEFGHIJKLMNOPQRSTUVWXYZ0123456789_"
	b := bytes.Repeat([]byte{'x'}, n)
	for at := range b {
		b[at] = letters[i%len(letters)]
		i /= len(letters)
	}
	return string(b)
}

// draws are numbers that look like chance, the same at each run.
type draws uint64

func (d *draws) next() uint32 {
	*d = *d*6364136223846793005 + 1442695040888963407
	return uint32(*d >> 32)
}

func (d *draws) below(n int) int { return int(d.next()>>1) % n }

func pick[T any](d *draws, l ...T) T { return l[d.below(len(l))] }
