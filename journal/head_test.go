package journal_test

import (
	"math"
	"strings"
	"testing"

	"lockgate/journal"
)

// dones are those that heads say, with those that they are kept from.
var dones = [][2]int{
	{0, 0}, {1, 1}, {2, 2}, {255, 255}, {256, 256}, {1 << 32, 1 << 32}, {1<<32 - 1, 1<<32 - 1}, {0x0102030405, 0x0102030405},
	{most - 1, most - 1}, {most, most}, {most + 1, most}, {2 * most, most}, {math.MaxInt, most}, {-1, 0}, {-most, 0}, {math.MinInt, 0},
}

// P11.1: heads, byte by byte, and what they say.
func TestHead(t *testing.T) {
	for _, d := range dones {
		s := journal.Head(d[0])
		if s != headOf(uint64(d[1])) {
			t.Errorf("Head(%d): %x", d[0], s)
		}
		if got, ok := journal.Done(s); got != d[1] || !ok {
			t.Errorf("Done of Head(%d): %d, %t, not %d", d[0], got, ok, d[1])
		}
	}
	if got, want := journal.Head(258), "\x00\x0cLGH1\x00\x00\x00\x00\x00\x00\x01\x02"+strings.Repeat("\x00", 498); got != want {
		t.Errorf("Head(258): %x", got)
	}
	d := draws(1)
	for range 2000 {
		n := int(d.next())<<d.below(9) | d.below(256)
		if got, ok := journal.Done(journal.Head(n)); got != min(n, most) || !ok {
			t.Fatalf("Done of Head(%d): %d, %t", n, got, ok)
		}
	}
}

// says holds Done of any text against the chapter's words.
func says(t *testing.T, sector string) {
	t.Helper()
	got, ok := journal.Done(sector)
	if want, wantOK := said(sector); got != want || ok != wantOK {
		t.Fatalf("Done(%x): %d, %t, not %d, %t", sector[:min(len(sector), 24)], got, ok, want, wantOK)
	}
}

// saysNone fails the test, if Done takes a text for a head.
func saysNone(t *testing.T, what, sector string) {
	t.Helper()
	if got, ok := journal.Done(sector); got != 0 || ok {
		t.Errorf("Done, %s: %d, %t, not 0, false", what, got, ok)
	}
}

// P11.1: heads of which a byte is turned are other ones, or none.
func TestDoneTurned(t *testing.T) {
	for _, done := range []uint64{0, 0x0102030405, most - 1, most} {
		s := headOf(done)
		for i := range len(s) {
			for x := range 256 {
				says(t, s[:i]+string([]byte{byte(x)})+s[i+1:])
			}
		}
	}
}

// P11.1: what is no head.
func TestDoneOfNone(t *testing.T) {
	s := headOf(7)
	for n := range len(s) {
		saysNone(t, "cut short", s[:n])
		saysNone(t, "cut short ahead", s[n+1:])
	}
	for _, more := range []string{"\x00", "\x01", s} {
		saysNone(t, "with more behind", s+more)
		saysNone(t, "with more ahead", more+s)
	}
	for _, done := range []uint64{most + 1, 2 * most, 1 << 48, 1 << 63, 1<<63 + 7, 1<<64 - 1} {
		saysNone(t, "a great done", headOf(done))
	}
	for _, line := range []string{"", "LGH1", "LGH1\x00", "LGH1" + eight(7)[:7], "LGH1" + eight(7) + "\x00", "LGH1" + eight(7) + eight(7), eight(7), "LGH2" + eight(7), "lgh1" + eight(7), "LGD1" + eight(7), "LGC1" + eight(7), "LGS1" + eight(7), "\x00LGH1" + eight(7), "LGH1" + four(7), "LGH1" + two(7)} {
		saysNone(t, "of another line", filled(line))
	}
	w := writtenOf(6, 0, 7, count(2))
	for _, sector := range []string{w.first(), w.mark(), strings.Repeat("\x00", 512), strings.Repeat("\xff", 512), "LGH1" + eight(7) + strings.Repeat("\x00", 500), strings.Repeat("\x00", 1<<20)} {
		saysNone(t, "of another sector", sector)
	}
	for _, n := range []int{0, 11, 13, 510, 511, 65535} {
		saysNone(t, "with a wrong count", two(n)+s[2:])
	}
}
