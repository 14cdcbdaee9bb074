package journal_test

import (
	"encoding/binary"
	"fmt"
	"hash/crc32"
	"maps"
	"math"
	"math/bits"
	"slices"
	"strings"
	"testing"

	"lockgate/api"
	"lockgate/journal"
)

// most is the greatest number of a record, and of a head.
const most = 1 << 40

// Here what lies in a journal is made, and read, by the chapter's words, without the package and those below it.

// filled is a text's sector, also of a text that is too long for one: then it is longer.
func filled(s string) string {
	return string(binary.BigEndian.AppendUint16(nil, uint16(len(s)))) + s + strings.Repeat("\x00", max(510-len(s), 0))
}

// unfilled is the text whose sector this is.
func unfilled(sector string) (string, bool) {
	if len(sector) != 512 {
		return "", false
	}
	n := int(sector[0])<<8 | int(sector[1])
	if n > 510 || strings.Trim(sector[2+n:], "\x00") != "" {
		return "", false
	}
	return sector[2 : 2+n], true
}

func eight(n uint64) string { return string(binary.BigEndian.AppendUint64(nil, n)) }
func four(n uint32) string  { return string(binary.BigEndian.AppendUint32(nil, n)) }
func two(n int) string      { return string(binary.BigEndian.AppendUint16(nil, uint16(n))) }

// headOf is a head, also one of a done that may not be.
func headOf(done uint64) string { return filled("LGH1" + eight(done)) }

// lineOf is a record's line.
func lineOf(sign string, seq uint64, n int, rest string) string {
	return filled(sign + eight(seq) + two(n) + rest)
}

// sumOf is the check sum of a row of texts, by way of the library's own, whose bits stand the other way round.
func sumOf(l []string) uint32 {
	var b []byte
	for _, s := range l {
		b = append(append(b, eight(uint64(len(s)))...), s...)
	}
	for i, x := range b {
		b[i] = bits.Reverse8(x)
	}
	return bits.Reverse32(crc32.ChecksumIEEE(b))
}

// written is what a record has in a journal; whoever spoils a part has the others fit that, so that nothing else is wrong.
type written struct {
	size      int
	done, seq uint64
	n         int
	sectors   []uint32
	texts     []string
}

// writtenOf is a record as it should be, behind a head.
func writtenOf(size int, done, seq uint64, l []api.Change) written {
	w := written{size: size, done: done, seq: seq, n: len(l)}
	for _, c := range l {
		w.sectors, w.texts = append(w.sectors, uint32(c.Sector)), append(w.texts, c.S)
	}
	return w
}

// changes are the record's.
func (w written) changes() []api.Change {
	var l []api.Change
	for i, sector := range w.sectors {
		l = append(l, api.Change{Sector: int(sector), S: w.texts[i]})
	}
	return l
}

// first is the record's first line.
func (w written) first() string {
	s := ""
	for _, n := range w.sectors {
		s += four(n)
	}
	return lineOf("LGD1", w.seq, w.n, s)
}

// mark is the record's mark.
func (w written) mark() string {
	return lineOf("LGC1", w.seq, w.n, four(sumOf(slices.Concat([]string{w.first()}, w.texts))))
}

// region is a journal in which the record lies, with bytes that say nothing in all other places.
func (w written) region() []string {
	l := slices.Repeat([]string{strings.Repeat("\xa5", 512)}, w.size)
	l[0], l[1] = headOf(w.done), w.first()
	copy(l[2:], w.texts)
	l[w.size-1] = w.mark()
	return l
}

// isRow tells whether l is a row of changes.
func isRow(l []api.Change) bool {
	return slices.IsSortedFunc(l, func(a, b api.Change) int { return a.Sector - b.Sector }) &&
		len(slices.CompactFunc(slices.Clone(l), func(a, b api.Change) bool { return a.Sector == b.Sector })) == len(l) &&
		!slices.ContainsFunc(l, func(c api.Change) bool { return len(c.S) != 512 || c.Sector < 0 || c.Sector > 65535 })
}

// said is what a head says.
func said(sector string) (int, bool) {
	s, ok := unfilled(sector)
	if !ok || len(s) != 12 || s[:4] != "LGH1" {
		return 0, false
	}
	done := binary.BigEndian.Uint64([]byte(s[4:]))
	if done > most {
		return 0, false
	}
	return int(done), true
}

// found is what lies in a journal, read word by word.
func found(region []string) (int, []api.Change, bool) {
	if len(region) < 2 {
		return 0, nil, false
	}
	done, ok := said(region[0])
	line, whole := unfilled(region[1])
	if !ok || !whole || len(line) < 14 || line[:4] != "LGD1" {
		return 0, nil, false
	}
	seq, n := binary.BigEndian.Uint64([]byte(line[4:12])), int(line[12])<<8|int(line[13])
	if n < 1 || n > 60 || len(line) != 14+4*n || len(region)-1 <= 1+n || seq > most || seq <= uint64(done) {
		return 0, nil, false
	}
	w := written{size: len(region), done: uint64(done), seq: seq, n: n, texts: region[2 : 2+n]}
	for i := range n {
		w.sectors = append(w.sectors, binary.BigEndian.Uint32([]byte(line[14+4*i:])))
	}
	if !isRow(w.changes()) || region[len(region)-1] != w.mark() {
		return 0, nil, false
	}
	return int(seq), w.changes(), true
}

// draws are numbers that look like chance, the same at each run.
type draws uint64

func (d *draws) next() uint32 {
	*d = *d*6364136223846793005 + 1442695040888963407
	return uint32(*d >> 32)
}

func (d *draws) below(n int) int { return int(d.next()>>1) % n }

// sector are bytes for one: all drawn, or all alike.
func (d *draws) sector() string {
	if d.below(4) == 0 {
		return strings.Repeat(string([]byte{byte(d.below(3) * 127)}), 512)
	}
	var b []byte
	for range 128 {
		b = binary.BigEndian.AppendUint32(b, d.next())
	}
	return string(b)
}

// row is one of n changes.
func (d *draws) row(n int) []api.Change {
	sectors := map[int]bool{}
	for len(sectors) < n {
		sectors[[]int{d.below(65536), d.below(100), 65535 - d.below(100)}[d.below(3)]] = true
	}
	var l []api.Change
	for _, sector := range slices.Sorted(maps.Keys(sectors)) {
		l = append(l, api.Change{Sector: sector, S: d.sector()})
	}
	return l
}

// rowOf is one of these sectors, in their order, of which each has bytes of its own.
func rowOf(sectors ...int) []api.Change {
	var l []api.Change
	for i, sector := range sectors {
		l = append(l, api.Change{Sector: sector, S: strings.Repeat(string([]byte{byte(i + 1), byte(sector)}), 256)})
	}
	return l
}

// count is a row of the sectors from 0 on.
func count(n int) []api.Change {
	l := make([]int, n)
	for i := range l {
		l[i] = i
	}
	return rowOf(l...)
}

// short is l without most of its bytes, for messages: of each change its sector, how many bytes it has, and the first of these.
func short(l []api.Change) string {
	var words []string
	for _, c := range l {
		words = append(words, fmt.Sprintf("%d:%d/%q", c.Sector, len(c.S), c.S[:min(len(c.S), 4)]))
	}
	return "[" + strings.Join(words, " ") + "]"
}

// scan holds Scan of any journal against the chapter's words.
func scan(t *testing.T, what string, region []string) {
	t.Helper()
	seq, l, ok := journal.Scan(region)
	wantSeq, want, wantOK := found(region)
	if seq != wantSeq || !slices.Equal(l, want) || ok != wantOK {
		t.Fatalf("%s: Scan tells %d, %s, %t, not %d, %s, %t", what, seq, short(l), ok, wantSeq, short(want), wantOK)
	}
}

// finds fails the test, if Scan doesn't find a record.
func finds(t *testing.T, what string, region []string, seq int, l []api.Change) {
	t.Helper()
	gotSeq, got, ok := journal.Scan(region)
	if gotSeq != seq || !slices.Equal(got, l) || !ok {
		t.Fatalf("%s: Scan tells %d, %s, %t, not %d, %s", what, gotSeq, short(got), ok, seq, short(l))
	}
}

// findsNone fails the test, if Scan finds anything.
func findsNone(t *testing.T, what string, region []string) {
	t.Helper()
	if seq, l, ok := journal.Scan(region); seq != 0 || len(l) > 0 || ok {
		t.Fatalf("%s: Scan tells %d, %s, %t, not 0, nothing, false", what, seq, short(l), ok)
	}
}

// The tests' own words are those of the chapters' examples.
func TestWords(t *testing.T) {
	if got := sumOf(nil); got != 0 {
		t.Errorf("the sum of nothing is %08x", got)
	}
	b := []byte("123456789")
	for i, x := range b {
		b[i] = bits.Reverse8(x)
	}
	if got := bits.Reverse32(crc32.ChecksumIEEE(b)); got != 0xfc891918 {
		t.Errorf("the sum of 123456789 is %08x", got)
	}
	if s, ok := unfilled(filled("ab")); s != "ab" || !ok || filled("ab")[:4] != "\x00\x02ab" || len(filled("ab")) != 512 {
		t.Errorf("the sector of ab is %x", filled("ab"))
	}
	if !isRow(nil) || !isRow(count(3)) || !isRow(rowOf(0, 65535)) || isRow(rowOf(1, 1)) || isRow(rowOf(2, 1)) || isRow(rowOf(-1)) || isRow(rowOf(65536)) {
		t.Error("rows are told wrong")
	}
	if math.MaxInt < most {
		t.Error("numbers are too short here")
	}
}
