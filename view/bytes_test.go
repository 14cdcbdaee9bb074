package view_test

import (
	"strings"
	"testing"

	"lockgate/api"
	"lockgate/pack"
	"lockgate/view"
)

// P6.2: a small view's bytes, one by one.
func TestBytesOfOne(t *testing.T) {
	v := api.View{
		Nodes: 2, Epoch: 258,
		Members: []api.Member{{Node: 0, Inc: 3, Ready: true}, {Node: 1, Inc: 1}},
		Dead:    []api.Member{{Node: 0, Inc: 2}},
		Incs:    []int{3, 1},
	}
	want := "\x00\x02" + "\x00\x00\x00\x00\x00\x00\x01\x02" +
		"\x00\x00\x00\x00\x00\x00\x00\x03" + "\x00\x00\x00\x00\x00\x00\x00\x01" +
		"\x00\x02" +
		"\x00\x00" + "\x00\x00\x00\x00\x00\x00\x00\x03" + "\x00\x01" +
		"\x00\x01" + "\x00\x00\x00\x00\x00\x00\x00\x01" + "\x00\x00" +
		"\x00\x01" +
		"\x00\x00" + "\x00\x00\x00\x00\x00\x00\x00\x02"
	if s, e := view.Bytes(v); s != want || e != api.OK {
		t.Errorf("Bytes: %x, %d, not %x", s, e, want)
	}
	got, e := view.Read(want)
	if same(t, "Read", got, v); e != api.OK {
		t.Errorf("Read: %d", e)
	}
}

// P6.2: bytes of views that may be are read again as they were, and the greatest view fits a sector.
func TestBytesAndRead(t *testing.T) {
	d := draws(62)
	l := views()
	for range 3000 {
		l = append(l, drawn(&d))
	}
	for _, v := range l {
		s, e := view.Bytes(v)
		if s != written(v) || e != api.OK {
			t.Fatalf("Bytes(%s): %x, %d, not %x", text(v), s, e, written(v))
		}
		got, e := view.Read(s)
		if same(t, "Read", got, v); e != api.OK {
			t.Fatalf("Read of Bytes(%s): %d", text(v), e)
		}
	}
	s, _ := view.Bytes(full(20))
	if _, e := pack.Fill(s); len(s) != 2+8+8*8+2+8*12+2+20*10 || e != api.OK {
		t.Errorf("the greatest view has %d bytes; Fill tells %d", len(s), e)
	}
}

// P6.2: views that may not be have no bytes, and what would be theirs isn't read.
func TestBytesOfWrong(t *testing.T) {
	for what, v := range spoiled() {
		if s, e := view.Bytes(v); s != "" || e != api.ErrArg {
			t.Errorf("Bytes, %s: %x, %d", what, s, e)
		}
		if _, ok := parsed(written(v)); !ok { // a few are another view's, once their numbers are cut
			notRead(t, what, written(v))
		}
	}
}

// notRead fails the test, if s is read as something.
func notRead(t *testing.T, what, s string) {
	t.Helper()
	v, e := view.Read(s)
	if same(t, "Read, "+what, v, api.View{}); e != api.ErrForm {
		t.Fatalf("Read, %s: %d", what, e)
	}
}

// read holds Read of any bytes against the chapter's words.
func read(t *testing.T, s string) {
	t.Helper()
	want, ok := parsed(s)
	if !ok {
		notRead(t, "bytes of none", s)
		return
	}
	got, e := view.Read(s)
	if same(t, "Read", got, want); e != api.OK {
		t.Fatalf("Read(%x): %d", s, e)
	}
	if again, e := view.Bytes(got); again != s || e != api.OK {
		t.Fatalf("Bytes of what was read of %x: %x, %d", s, again, e)
	}
}

// P6.2: bytes cut short anywhere, or with more behind, are no view's.
func TestReadCut(t *testing.T) {
	for _, v := range views() {
		s := written(v)
		for n := range len(s) {
			notRead(t, "cut short", s[:n])
			notRead(t, "cut short ahead", s[n+1:])
		}
		for _, more := range []string{"\x00", "\x01", "\x00\x00", s, strings.Repeat("\x00", 512-len(s))} {
			notRead(t, "with more behind", s+more)
			notRead(t, "with more ahead", more+s)
		}
	}
}

// P6.2: bytes turned at any place are another view's, or none's.
func TestReadTurned(t *testing.T) {
	for _, v := range []api.View{view.New(1), view.New(8), sample(), full(0), full(20)} {
		s := written(v)
		for i := range len(s) {
			for x := range 256 {
				read(t, s[:i]+string([]byte{byte(x)})+s[i+1:])
			}
		}
	}
}

// P6.2: what stands for ready is 1 or 0 alone.
func TestReadMarks(t *testing.T) {
	v := api.View{Nodes: 1, Epoch: 1, Members: []api.Member{{Inc: 1, Ready: true}}, Incs: []int{1}}
	s := written(v)
	at := len(s) - 4
	for n := range 1 << 16 {
		turned := s[:at] + pack.Two(uint16(n)) + s[at+2:]
		if n > 1 {
			notRead(t, "a mark that is neither", turned)
			continue
		}
		v.Members[0].Ready = n == 1
		got, e := view.Read(turned)
		if same(t, "Read", got, v); e != api.OK {
			t.Errorf("Read with mark %d: %d", n, e)
		}
	}
}

// P6.2: lists and numbers greater than there may be, with all that they say behind.
func TestReadTooMany(t *testing.T) {
	head := func(nodes int) string {
		return pack.Two(uint16(nodes)) + pack.Eight(0) + strings.Repeat(pack.Eight(1), nodes)
	}
	for _, n := range []int{0, 9, 16, 255, 256, 4096, 65535} {
		notRead(t, "so many nodes", head(n)+pack.Two(0)+pack.Two(0))
	}
	for _, n := range []int{2, 9, 21, 256, 65535} {
		notRead(t, "so many members", head(1)+pack.Two(uint16(n))+strings.Repeat(pack.Two(0)+pack.Eight(1)+pack.Two(0), n)+pack.Two(0))
		notRead(t, "so many dead", head(1)+pack.Two(0)+pack.Two(uint16(n))+strings.Repeat(pack.Two(0)+pack.Eight(1), n))
	}
	rows := ""
	for i := range 21 {
		rows += pack.Two(0) + pack.Eight(uint64(i+1))
	}
	many := pack.Two(1) + pack.Eight(0) + pack.Eight(30) + pack.Two(0)
	if v, e := view.Read(many + pack.Two(20) + rows[:200]); e != api.OK || len(v.Dead) != 20 {
		t.Errorf("Read with 20 dead: %d, %d", len(v.Dead), e)
	}
	notRead(t, "21 dead", many+pack.Two(21)+rows)
	notRead(t, "20 dead that are 21", many+pack.Two(20)+rows)
	for _, n := range []uint64{most + 1, 1 << 63, 1<<64 - 1} {
		notRead(t, "a great Epoch", pack.Two(1)+pack.Eight(n)+pack.Eight(0)+pack.Two(0)+pack.Two(0))
		notRead(t, "great Incs", pack.Two(1)+pack.Eight(0)+pack.Eight(n)+pack.Two(0)+pack.Two(0))
		notRead(t, "a great member", pack.Two(1)+pack.Eight(0)+pack.Eight(1)+pack.Two(1)+pack.Two(0)+pack.Eight(n)+pack.Two(0)+pack.Two(0))
		notRead(t, "a great dead one", pack.Two(1)+pack.Eight(0)+pack.Eight(1)+pack.Two(0)+pack.Two(1)+pack.Two(0)+pack.Eight(n))
	}
}

// P6.2: arbitrary bytes, and views' bytes with parts taken out, doubled or drawn anew.
func TestReadDrawn(t *testing.T) {
	d := draws(26)
	for range 20000 {
		s := written(drawn(&d))
		from := d.below(len(s))
		to := from + d.below(min(12, len(s)-from)+1)
		switch d.below(4) {
		case 0:
			s = s[:from] + s[to:]
		case 1:
			s = s[:to] + s[from:]
		case 2:
			b := []byte(s)
			for i := from; i < to; i++ {
				b[i] = byte(d.below(4))
			}
			s = string(b)
		case 3:
			b := make([]byte, d.below(60))
			for i := range b {
				b[i] = byte(d.below(256) * d.below(2))
			}
			s = string(b)
		}
		read(t, s)
	}
	for _, n := range []int{0, 1, 511, 512, 513, 1 << 20} {
		read(t, strings.Repeat("\x00", n))
		read(t, strings.Repeat("\x00\x01", n))
		read(t, strings.Repeat("\xff", n))
	}
}

// R3: what was read is its owner's, and nothing of it is another reading's.
func TestReadIsOwned(t *testing.T) {
	for _, v := range views() {
		s := written(v)
		a, _ := view.Read(s)
		b, _ := view.Read(s)
		scribble(a)
		same(t, "another reading", b, v)
		scribble(api.View{Members: b.Members})
		again, _ := view.Read(s)
		b.Members = again.Members
		same(t, "what was read, once its members were written over", b, v)
	}
}
