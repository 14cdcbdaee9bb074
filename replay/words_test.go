package replay_test

import (
	"encoding/binary"
	"fmt"
	"slices"
	"strings"
	"testing"

	"lockgate/api"
	"lockgate/disk"
	"lockgate/journal"
)

// most is the greatest number of a record.
const most = 1 << 40

// bytesOf is a sector whose bytes are all x.
func bytesOf(x byte) string { return strings.Repeat(string([]byte{x}), 512) }

// write and flush are steps.
func write(sector int, s string) api.Step { return api.Step{Sector: sector, S: s} }

var flush = api.Step{Flush: true}

// rowOf is a row of changes of these sectors, in their order, of which each has bytes of its own.
func rowOf(sectors ...int) []api.Change {
	var l []api.Change
	for i, sector := range sectors {
		l = append(l, api.Change{Sector: sector, S: strings.Repeat(string([]byte{byte(i + 1), byte(sector)}), 256)})
	}
	return l
}

// count is a row of the n sectors from one on.
func count(from, n int) []api.Change {
	l := make([]int, n)
	for i := range l {
		l[i] = from + i
	}
	return rowOf(l...)
}

// logOf are a record's steps by the chapter's words; the bytes are those that journal.Record tells.
func logOf(t *testing.T, base, size, seq int, l []api.Change) []api.Step {
	t.Helper()
	told, mark, e := journal.Record(size, seq, l)
	if e != api.OK || len(told) != len(l)+1 {
		t.Fatalf("Record(%d, %d, %d changes): %d", size, seq, len(l), e)
	}
	steps := []api.Step{write(base+1, told[0].S)}
	for i, c := range l {
		steps = append(steps, write(base+2+i, c.S))
	}
	return append(steps, flush, write(base+size-1, mark.S), flush)
}

// homeOf are the steps home, by the chapter's words.
func homeOf(base, seq int, l []api.Change) []api.Step {
	var steps []api.Step
	for _, c := range l {
		steps = append(steps, write(c.Sector, c.S))
	}
	return append(steps, flush, write(base, journal.Head(seq)), flush)
}

// regionOf is a journal in which a record lies whole, behind a head.
func regionOf(t *testing.T, size, done, seq int, l []api.Change) []string {
	t.Helper()
	region := slices.Repeat([]string{bytesOf(0xa5)}, size)
	region[0] = journal.Head(done)
	for _, s := range logOf(t, 0, size, seq, l) {
		if !s.Flush {
			region[s.Sector] = s.S
		}
	}
	return region
}

// short is l without most of its bytes, for messages.
func short(l []api.Step) string {
	var words []string
	for _, s := range l {
		word := fmt.Sprintf("%d:%d/%q", s.Sector, len(s.S), s.S[:min(len(s.S), 6)])
		if s.Flush {
			word = "flush " + word
		}
		words = append(words, word)
	}
	return "[" + strings.Join(words, " ") + "]"
}

// same fails the test, if steps aren't those that are wanted: each one's kind, place and bytes, in order.
func same(t *testing.T, what string, got, want []api.Step) {
	t.Helper()
	if !slices.Equal(got, want) {
		t.Fatalf("%s: %s, not %s", what, short(got), short(want))
	}
}

// diskOf is a disk of so many sectors, each with bytes of its own, to which these keys are registered; key 1000 laid it.
func diskOf(sectors int, keys ...int) *disk.Disk {
	d := disk.New(sectors)
	d.Register(1000)
	for i := range sectors {
		d.Write(1000, i, strings.Repeat(string([]byte{'d', byte(i), byte(i >> 8), '.'}), 128))
	}
	d.Flush(1000)
	for _, key := range keys {
		d.Register(key)
	}
	return d
}

// lying is what lies in all sectors of a disk.
func lying(d *disk.Disk) []string {
	l := make([]string, d.Sectors())
	for i := range l {
		l[i] = d.Peek(i)
	}
	return l
}

// draws are numbers that look like chance, the same at each run.
type draws uint64

func (d *draws) next() uint32 {
	*d = *d*6364136223846793005 + 1442695040888963407
	return uint32(*d >> 32)
}

func (d *draws) below(n int) int { return int(d.next()>>1) % n }

// sector are bytes for one: all drawn, or all alike.
func (d *draws) sector() string {
	if d.below(4) == 0 {
		return bytesOf(byte(d.below(3) * 127))
	}
	var b []byte
	for range 128 {
		b = binary.BigEndian.AppendUint32(b, d.next())
	}
	return string(b)
}

// row is one of n changes, for sectors of a disk from which those of a journal are left out.
func (d *draws) row(n, sectors, base, size int) []api.Change {
	var free []int
	for i := range sectors {
		if i < base || i >= base+size {
			free = append(free, i)
		}
	}
	for i := range n {
		j := i + d.below(len(free)-i)
		free[i], free[j] = free[j], free[i]
	}
	picked := slices.Sorted(slices.Values(free[:n]))
	l := make([]api.Change, n)
	for i, sector := range picked {
		l[i] = api.Change{Sector: sector, S: d.sector()}
	}
	return l
}

// picks are of n writes all, none, or some.
func (d *draws) picks(n int) []int {
	l := make([]int, n)
	how := d.below(4)
	for i := range l {
		l[i] = []int{0, 1, d.below(2), []int{-1, -2, 3, 8}[d.below(4)]}[how]
	}
	return l
}
