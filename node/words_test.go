package node_test

import (
	"fmt"
	"reflect"
	"slices"
	"strings"
	"testing"

	"lockgate/api"
	"lockgate/disk"
	"lockgate/layout"
	"lockgate/master"
	"lockgate/node"
	"lockgate/ops"
	"lockgate/pack"
	"lockgate/view"
)

// hand is the key by which tests write what they want to lie there; probes count from base on.
const (
	hand = 1 << 44
	base = 1 << 45
)

// bench is a disk, at which nodes are started.
type bench struct {
	t      *testing.T
	l      api.Layout
	d      *disk.Disk
	probes int
}

// on is a bench with a new disk.
func on(t *testing.T, sectors, nodes int) *bench {
	t.Helper()
	l, e := layout.New(sectors, nodes)
	row, e2 := ops.Format(l)
	if e != api.OK || e2 != api.OK {
		t.Fatalf("no layout of %d, %d", sectors, nodes)
	}
	b := &bench{t: t, l: l, d: disk.New(sectors)}
	b.d.Register(hand)
	for _, c := range row {
		b.lie(c.Sector, c.S)
	}
	return b
}

// lie has something lie in a sector.
func (b *bench) lie(sector int, s string) {
	b.t.Helper()
	if e := b.d.Swap(hand, sector, b.d.Peek(sector), s); e != api.OK {
		b.t.Fatalf("sector %d: told %v", sector, e)
	}
}

// fill is pack's.
func fill(s string) string {
	told, e := pack.Fill(s)
	if e != api.OK {
		panic("too long")
	}
	return told
}

// viewText is what lies in sector 1, if that is the view.
func viewText(v api.View) string {
	s, e := view.Bytes(v)
	if e != api.OK {
		panic(fmt.Sprint("a view that may not be: ", v))
	}
	return fill(s)
}

// view is the one that lies there.
func (b *bench) view() api.View {
	b.t.Helper()
	s, ok := pack.Open(b.d.Peek(1))
	v, e := view.Read(s)
	if !ok || e != api.OK {
		b.t.Fatal("no view lies there")
	}
	return v
}

// set has another view lie there.
func (b *bench) set(v api.View) {
	b.t.Helper()
	b.lie(1, viewText(v))
}

// joins has a node that is the test's own join; told is its incarnation. It has a key.
func (b *bench) joins(id int) int {
	b.t.Helper()
	v, inc := view.Join(b.view(), id)
	if inc == 0 || b.d.Register(view.Key(id, inc)) != api.OK {
		b.t.Fatalf("%d can't join", id)
	}
	b.set(v)
	return inc
}

// readies has members be ready.
func (b *bench) readies(ids ...int) {
	b.t.Helper()
	for _, id := range ids {
		v, ok := view.Ready(b.view(), id, view.Inc(b.view(), id))
		if !ok {
			b.t.Fatalf("%d can't be ready", id)
		}
		b.set(v)
	}
}

// start starts a node.
func (b *bench) start(id, limit int) *node.Node {
	b.t.Helper()
	b.probes++
	n, e := node.Start(id, limit, base+b.probes, b.l, b.d)
	if e != api.OK || n == nil {
		b.t.Fatalf("start of %d: told %v", id, e)
	}
	return n
}

// alone is a node of a disk of one, which has entered its view.
func alone(t *testing.T, sectors int) (*bench, *node.Node) {
	t.Helper()
	b := on(t, sectors, 1)
	n := b.start(0, 9)
	b.nothing("its first tick", n.Tick())
	if n.Epoch() != 1 || !view.Open(b.view()) {
		t.Fatal("it isn't open")
	}
	return b, n
}

// with is a node, started among others that are the test's own: members, of which all are ready, and it has entered their view.
func with(t *testing.T, sectors, nodes, id int, others ...int) (*bench, *node.Node) {
	t.Helper()
	return within(t, 9, sectors, nodes, id, others...)
}

// within is such a node, whose pulse has another limit.
func within(t *testing.T, limit, sectors, nodes, id int, others ...int) (*bench, *node.Node) {
	t.Helper()
	b := on(t, sectors, nodes)
	for _, o := range others {
		b.joins(o)
	}
	n := b.start(id, limit)
	b.readies(others...)
	b.nothing("a step", n.Step())
	if n.Epoch() != b.view().Epoch || !view.Open(b.view()) {
		t.Fatal("it isn't open")
	}
	return b, n
}

// empty tells whether an event brought nothing.
func empty(o api.Out) bool {
	return len(o.Mails) == 0 && len(o.Answers) == 0 && len(o.Done) == 0 && len(o.Graves) == 0
}

// nothing holds what an event brought to be nothing.
func (b *bench) nothing(what string, o api.Out) {
	b.t.Helper()
	if !empty(o) {
		b.t.Errorf("%s: told %s", what, show(o))
	}
}

// show is what an event brought: >2 are mails, =5 answers, +3 graves.
func show(o api.Out) string {
	var l []string
	for _, m := range o.Mails {
		l = append(l, fmt.Sprintf(">%d %s", m.To, said(m.Body)))
	}
	for _, a := range o.Answers {
		l = append(l, fmt.Sprintf("=%d %s", a.ID, short(a.Reply)))
	}
	if len(o.Done) > 0 {
		l = append(l, fmt.Sprint("done ", o.Done))
	}
	for _, g := range o.Graves {
		l = append(l, fmt.Sprintf("+%d.%d %d", g.Node, g.Inc, g.Done))
	}
	return strings.Join(l, "; ")
}

// said is a note: its kind, epoch, resource, mode and count.
func said(body string) string {
	n, e := master.Read(body)
	if e != api.OK {
		return fmt.Sprintf("%q", body)
	}
	if n.Kind == api.NoteBeat {
		return "beat"
	}
	kinds := []string{"", "want", "drop", "grant", "call"}
	return fmt.Sprintf("%s e%d z%d m%d #%d", kinds[n.Kind], n.Epoch, n.Res, n.Mode, n.Seq)
}

// short is a reply, as far as it tells something.
func short(r api.Reply) string {
	s := fmt.Sprint(int(r.Err))
	if r.Data != "" {
		s += fmt.Sprintf(" %q", r.Data[:min(len(r.Data), 9)])
	}
	if len(r.Names) > 0 {
		s += fmt.Sprint(" ", r.Names)
	}
	if r.Kind+r.Links+r.Size > 0 {
		s += fmt.Sprintf(" %d/%d/%d", r.Kind, r.Links, r.Size)
	}
	if r.Free > 0 {
		s += fmt.Sprint(" free ", r.Free)
	}
	return s
}

// is holds what an event brought against what show tells of it.
func is(t *testing.T, what string, o api.Out, want string) {
	t.Helper()
	if got := show(o); got != want {
		t.Errorf("%s: told %q, want %q", what, got, want)
	}
}

// note is a note's bytes.
func note(kind, epoch, res, mode, seq int) string {
	s, e := master.Bytes(api.Note{Kind: kind, Epoch: epoch, Res: res, Mode: mode, Seq: seq})
	if e != api.OK {
		panic("a note that may not be")
	}
	return s
}

// state is what a node tells of itself.
func state(n *node.Node) string {
	s := fmt.Sprintf("up %v inc %d epoch %d modes", n.Up(), n.Inc(), n.Epoch())
	for zone := range api.Zones {
		s += fmt.Sprint(" ", n.Mode(zone))
	}
	return s + fmt.Sprintf(" waits %d busy %v record %d kept %v", n.Waits(), n.Busy(), n.Record(), n.Kept())
}

// stands holds what a node tells of itself against what state should tell.
func stands(t *testing.T, what string, n *node.Node, want string) {
	t.Helper()
	if got := state(n); got != want {
		t.Errorf("%s: %s, want %s", what, got, want)
	}
}

// Calls.
func create(p string) api.Call          { return api.Call{Op: api.OpCreate, Path: p} }
func mkdir(p string) api.Call           { return api.Call{Op: api.OpMkdir, Path: p} }
func link(p, to string) api.Call        { return api.Call{Op: api.OpLink, Path: p, To: to} }
func unlink(p string) api.Call          { return api.Call{Op: api.OpUnlink, Path: p} }
func rename(p, to string) api.Call      { return api.Call{Op: api.OpRename, Path: p, To: to} }
func read(p string, at, n int) api.Call { return api.Call{Op: api.OpRead, Path: p, At: at, N: n} }
func write(p string, at int, s string) api.Call {
	return api.Call{Op: api.OpWrite, Path: p, At: at, Data: s}
}
func truncate(p string, n int) api.Call { return api.Call{Op: api.OpTruncate, Path: p, N: n} }
func readdir(p string) api.Call         { return api.Call{Op: api.OpReaddir, Path: p} }
func stat(p string) api.Call            { return api.Call{Op: api.OpStat, Path: p} }
func syncs() api.Call                   { return api.Call{Op: api.OpSync} }
func statfs() api.Call                  { return api.Call{Op: api.OpStatfs} }

// equal tells whether two replies are the same.
func equal(a, b api.Reply) bool {
	if !slices.Equal(a.Names, b.Names) {
		return false
	}
	a.Names, b.Names = nil, nil
	return reflect.DeepEqual(a, b)
}

// steps has a node do steps as long as it is busy; told is what they brought, one by one.
func steps(t *testing.T, n *node.Node) []api.Out {
	t.Helper()
	var l []api.Out
	for n.Busy() {
		if len(l) > 200 {
			t.Fatal("it is busy for ever")
		}
		l = append(l, n.Step())
	}
	return l
}

// draws are numbers that look drawn, and are the same each time.
type draws uint64

// below is one from 0 to k - 1.
func (d *draws) below(k int) int {
	*d = *d*6364136223846793005 + 1442695040888963407
	return int(uint64(*d) >> 33 % uint64(k))
}

// ops is what a call does to what lies on the disk.
func (b *bench) ops(c api.Call) (api.Reply, []api.Change) {
	r, row, _ := ops.Do(b.l, b.d.Peek, c)
	return r, row
}
