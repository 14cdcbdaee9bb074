package pack_test

import (
	"encoding/binary"
	"math"
	"testing"

	"lockgate/api"
	"lockgate/pack"
)

// stands fails unless so many bytes are left, and End tells what belongs to that.
func stands(t *testing.T, what string, r *pack.Reader, left int) {
	t.Helper()
	end := api.OK
	if left > 0 {
		end = api.ErrForm
	}
	if r.Left() != left || r.End() != end {
		t.Errorf("%s: %d left, End %d; want %d, %d", what, r.Left(), r.End(), left, end)
	}
}

// broken fails unless the reader tells nothing any more, whatever it is asked, in any order.
func broken(t *testing.T, what string, r *pack.Reader) {
	t.Helper()
	for range 2 {
		if r.Left() != 0 || r.End() != api.ErrForm {
			t.Errorf("%s: %d left, End %d; want a broken reader", what, r.Left(), r.End())
		}
		two, four, eight, text := r.Two(), r.Four(), r.Eight(math.MaxInt), r.Text()
		if two != 0 || four != 0 || eight != 0 || text != "" {
			t.Errorf("%s: a broken reader tells %d, %d, %d, %x", what, two, four, eight, text)
		}
	}
}

func TestReadNumbers(t *testing.T) {
	for _, n := range numbers() {
		for _, rest := range []string{"", "\x00", "\xff\xff\xff\xff\xff\xff\xff\xff\xff"} {
			r := pack.Read(pack.Two(uint16(n)) + rest)
			if got := r.Two(); got != int(uint16(n)) {
				t.Errorf("Two: %d, want %d", got, uint16(n))
			}
			stands(t, "behind Two", r, len(rest))
			r = pack.Read(pack.Four(uint32(n)) + rest)
			if got := r.Four(); got != int(uint32(n)) {
				t.Errorf("Four: %d, want %d", got, uint32(n))
			}
			stands(t, "behind Four", r, len(rest))
		}
	}
}

func TestReadEightWithin(t *testing.T) {
	for _, n := range numbers() {
		if n > math.MaxInt {
			continue
		}
		for _, most := range []int{int(n), int(n) + 1, math.MaxInt} {
			if most < int(n) {
				continue
			}
			r := pack.Read(pack.Eight(n) + "abc")
			if got := r.Eight(most); got != int(n) {
				t.Errorf("Eight(%d) of %d: %d", most, n, got)
			}
			stands(t, "behind Eight", r, 3)
			if r.Text() != "" || r.Left() != 0 { // a count of 24930, and one byte
				t.Errorf("a text cut short behind Eight is read")
			}
		}
	}
}

func TestReadEightAbove(t *testing.T) {
	for _, n := range numbers() {
		mosts := []int{-1, -2, math.MinInt}
		if n > 0 {
			mosts = append(mosts, 0, int(min(n-1, math.MaxInt)))
		}
		for _, most := range mosts {
			r := pack.Read(pack.Eight(n) + "\x00\x01ab")
			if got := r.Eight(most); got != 0 {
				t.Errorf("Eight(%d) of %d: %d, want 0", most, n, got)
			}
			broken(t, "behind a number above its most", r)
		}
	}
}

// A most below 0 allows no number, also not 0; a most of 0 allows just that.
func TestReadEightLeastMost(t *testing.T) {
	r := pack.Read(pack.Eight(0))
	if r.Eight(0) != 0 {
		t.Errorf("Eight(0) of 0 is not 0")
	}
	stands(t, "behind Eight(0) of 0", r, 0)
	r = pack.Read(pack.Eight(0))
	if r.Eight(-1) != 0 {
		t.Errorf("Eight(-1) of 0 is not 0")
	}
	broken(t, "behind Eight(-1) of 0", r)
}

func TestReadText(t *testing.T) {
	for _, n := range []int{0, 1, 2, 255, 256, 510, 511, 65535} {
		s := mixed(n)
		r := pack.Read(counted(s) + "xyz")
		if got := r.Text(); got != s {
			t.Errorf("Text of %d bytes: %d bytes", n, len(got))
		}
		stands(t, "behind Text", r, 3)
	}
}

func TestReadTextCutShort(t *testing.T) {
	for _, n := range []int{1, 2, 5, 256, 65535} {
		whole := counted(mixed(n))
		for _, size := range []int{0, 1, 2, 3, len(whole) / 2, len(whole) - 1} {
			if size >= len(whole) {
				continue
			}
			r := pack.Read(whole[:size])
			if got := r.Text(); got != "" {
				t.Errorf("a text of %d bytes, %d of them with its count there: %x", n, size, got)
			}
			broken(t, "behind a text cut short", r)
		}
	}
}

func TestReadNumberCutShort(t *testing.T) {
	reads := map[int]func(*pack.Reader) int{
		2: (*pack.Reader).Two,
		4: (*pack.Reader).Four,
		8: func(r *pack.Reader) int { return r.Eight(math.MaxInt) },
	}
	for size, read := range reads {
		for n := range size {
			r := pack.Read("\x01\x01\x01\x01\x01\x01\x01\x01"[:n])
			if got := read(r); got != 0 {
				t.Errorf("a number of %d bytes, %d of them there: %d", size, n, got)
			}
			broken(t, "behind a number cut short", r)
		}
	}
}

// What a number lacks does not come from a reader that had been broken with bytes left.
func TestBrokenWithBytesLeft(t *testing.T) {
	r := pack.Read("\x00\x09ab")
	if r.Text() != "" {
		t.Errorf("a text of 9 bytes, 2 of them there, is told")
	}
	broken(t, "behind that", r)
	r = pack.Read("\x00\x00\x01")
	if r.Four() != 0 {
		t.Errorf("a number of 4 bytes, 3 of them there, is told")
	}
	broken(t, "behind that", r)
}

func TestLeftAndEndChangeNothing(t *testing.T) {
	r := pack.Read("\x00\x07\x00\x01a")
	for range 3 {
		stands(t, "at the beginning", r, 5)
	}
	if got := r.Two(); got != 7 {
		t.Errorf("Two behind Left and End: %d", got)
	}
	if got := r.Text(); got != "a" {
		t.Errorf("Text behind that: %x", got)
	}
	for range 3 {
		stands(t, "at the end", r, 0)
	}
	if r.Two() != 0 {
		t.Errorf("a number is told behind the end")
	}
	broken(t, "behind the end", r)
}

func TestNilReader(t *testing.T) {
	var r *pack.Reader
	broken(t, "a nil reader", r)
	if r.Eight(-1) != 0 || r.Eight(0) != 0 {
		t.Errorf("a nil reader has a number")
	}
}

func TestZeroReader(t *testing.T) {
	var r pack.Reader
	stands(t, "a zero reader", &r, 0)
	if r.Text() != "" {
		t.Errorf("a zero reader has a text")
	}
	broken(t, "a zero reader that was read from", &r)
	stands(t, "Read of nothing", pack.Read(""), 0)
}

// Readers of one text go on each by itself, and tell the same.
func TestReadersApart(t *testing.T) {
	s := pack.Two(1) + pack.Two(2)
	a, b := pack.Read(s), pack.Read(s)
	if a.Two() != 1 || b.Two() != 1 || b.Four() != 0 || a.Two() != 2 {
		t.Errorf("two readers of one text disturb each other")
	}
	stands(t, "the one that was read to its end", a, 0)
	broken(t, "the one that was read too far", b)
}

// draws are numbers that look as if drawn, always the same ones.
type draws uint64

func (d *draws) below(n int) int {
	*d = *d*6364136223846793005 + 1442695040888963407
	return int(uint64(*d) >> 33 % uint64(n))
}

// A row of numbers and texts, put one behind the other, is read again, and what stands behind it is left.
func TestPutIsReadAgain(t *testing.T) {
	d := draws(1)
	for range 2000 {
		s, kinds, values, texts := "", []int{}, []int{}, []string{}
		for range d.below(12) {
			kind, v, x := d.below(4), d.below(1<<31-1), mixed(d.below(700))
			text, _ := pack.Text(x)
			s += []string{pack.Two(uint16(v)), pack.Four(uint32(v)), pack.Eight(uint64(v)), text}[kind]
			kinds, values, texts = append(kinds, kind), append(values, v), append(texts, x)
		}
		behind := mixed(d.below(20))
		r := pack.Read(s + behind)
		for i, kind := range kinds {
			readAgain(t, r, kind, values[i], texts[i])
		}
		stands(t, "behind what was put", r, len(behind))
		if t.Failed() {
			return
		}
	}
}

func readAgain(t *testing.T, r *pack.Reader, kind, v int, x string) {
	t.Helper()
	switch kind {
	case 0:
		if got := r.Two(); got != v%65536 {
			t.Errorf("Two: %d, want %d", got, v%65536)
		}
	case 1:
		if got := r.Four(); got != v {
			t.Errorf("Four: %d, want %d", got, v)
		}
	case 2:
		if got := r.Eight(v); got != v {
			t.Errorf("Eight: %d, want %d", got, v)
		}
	case 3:
		if got := r.Text(); got != x {
			t.Errorf("Text: %x, want %x", got, x)
		}
	}
}

// rule is a reader as the chapter words it, by a place in a text.
type rule struct {
	s      string
	at     int
	broken bool
}

// ask reads a number of so many bytes; -1, if there is none.
func (m *rule) ask(size int, most uint64) int {
	if m.broken || len(m.s)-m.at < size {
		m.broken = true
		return -1
	}
	n := binary.BigEndian.Uint64([]byte(zeros(8-size) + m.s[m.at:m.at+size]))
	if n > most {
		m.broken = true
		return -1
	}
	m.at += size
	return int(n)
}

func (m *rule) text() string {
	n := m.ask(2, math.MaxUint16)
	if m.broken || len(m.s)-m.at < n {
		m.broken = true
		return ""
	}
	m.at += n
	return m.s[m.at-n : m.at]
}

func (m *rule) left() int {
	if m.broken {
		return 0
	}
	return len(m.s) - m.at
}

// Of bytes that nobody put, with any calls in any order, a reader tells what the chapter's words tell, and never panics.
func TestReadAnything(t *testing.T) {
	d := draws(2)
	for range 20000 {
		b := make([]byte, d.below(40))
		for i := range b {
			b[i] = byte(d.below(256) >> (8 * d.below(2)) >> d.below(8))
		}
		r, m := pack.Read(string(b)), &rule{s: string(b)}
		for range 8 {
			sameStep(t, &d, r, m)
		}
		if t.Failed() {
			t.Fatalf("the bytes: %x", b)
		}
	}
}

func sameStep(t *testing.T, d *draws, r *pack.Reader, m *rule) {
	t.Helper()
	most := []int{-1, 0, 1, 255, 1 << 30, math.MaxInt}[d.below(6)]
	switch d.below(4) {
	case 0:
		sameNumber(t, "Two", r.Two(), m.ask(2, math.MaxUint16))
	case 1:
		sameNumber(t, "Four", r.Four(), m.ask(4, math.MaxUint32))
	case 2:
		m.broken = m.broken || most < 0
		sameNumber(t, "Eight", r.Eight(most), m.ask(8, uint64(most)))
	case 3:
		if got, want := r.Text(), m.text(); got != want {
			t.Errorf("Text: %x, want %x", got, want)
		}
	}
	if r.Left() != m.left() || (r.End() == api.OK) != (!m.broken && m.left() == 0) {
		t.Errorf("%d left, End %d; want %d, broken %v", r.Left(), r.End(), m.left(), m.broken)
	}
}

func sameNumber(t *testing.T, what string, got, want int) {
	t.Helper()
	if got != max(want, 0) {
		t.Errorf("%s: %d, want %d", what, got, max(want, 0))
	}
}
