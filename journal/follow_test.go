package journal_test

import (
	"slices"
	"strings"
	"testing"

	"lockgate/api"
	"lockgate/journal"
)

// drawnRecord is what Record tells of a drawn row, and what it was asked.
type drawnRecord struct {
	size, seq int
	l, told   []api.Change
	mark      api.Change
}

// record is a drawn one, for a journal of so many places.
func (d *draws) record(t *testing.T, size, seq int) drawnRecord {
	t.Helper()
	l := d.row(1 + d.below(journal.Room(size)))
	told, mark, e := journal.Record(size, seq, l)
	if e != api.OK {
		t.Fatalf("Record(%d, %d, %s): %d", size, seq, short(l), e)
	}
	return drawnRecord{size: size, seq: seq, l: l, told: told, mark: mark}
}

// number is a drawn one that a record may have, above 1.
func (d *draws) number() int {
	return []int{2 + d.below(9), most - d.below(9), 2 + int(d.next())<<d.below(8)}[d.below(3)]
}

// before are a journal's places ahead of a record: bytes that say nothing, and an elder record, whole or in parts, or lines of this one.
func (d *draws) before(elder, r drawnRecord) []string {
	lines := []string{journal.Head(r.seq - 1), journal.Head(r.seq), r.told[0].S, r.mark.S, elder.told[0].S, elder.mark.S, ""}
	region := make([]string, r.size)
	for i := range region {
		region[i] = d.sector()
		if d.below(3) == 0 {
			region[i] = lines[d.below(len(lines))]
		}
	}
	for _, c := range append(slices.Clone(elder.told), elder.mark) {
		if d.below(8) > 0 {
			region[c.Sector] = c.S
		}
	}
	region[0] = journal.Head(r.seq - 1 - d.below(min(r.seq, 3)))
	return region
}

// P11.5: a drawn record is found with its mark, and not without it, whatever lies at all other places, or at the mark's; and no more, once a head with its number lies there.
func TestRecordIsFound(t *testing.T) {
	d := draws(6)
	for range 500 {
		size := 4 + d.below(66)
		r := d.record(t, size, d.number())
		elder := d.record(t, size, r.seq-1)
		region := d.before(elder, r)
		for _, c := range r.told {
			region[c.Sector] = c.S
		}
		done, _ := said(region[0])
		for _, at := range []string{strings.Repeat("\x00", 512), "", d.sector(), region[0], r.told[0].S, r.told[1].S, elder.told[0].S, elder.mark.S, r.mark.S[:511], r.mark.S + "\x00"} {
			region[size-1] = at
			findsNone(t, "without its mark", region)
		}
		region[r.mark.Sector] = r.mark.S
		finds(t, "with its mark", region, r.seq, r.l)
		for _, head := range []int{0, r.seq - 1, r.seq, r.seq + 1, most, done} {
			region[0] = journal.Head(head)
			if head < r.seq {
				finds(t, "with a head below", region, r.seq, r.l)
			} else {
				findsNone(t, "with a head that isn't below", region)
			}
		}
	}
}

// P11.5: of an elder record and parts of one that is written over it, just the elder one is found, and that only if it lies there whole.
func TestRecordOverAnElderOne(t *testing.T) {
	d := draws(7)
	elders := 0
	for range 1500 {
		size := 4 + d.below(6)
		r := d.record(t, size, d.number())
		elder := d.record(t, size, r.seq-1)
		region := slices.Repeat([]string{strings.Repeat("\x00", 512)}, size)
		region[0] = journal.Head(elder.seq - 1)
		for _, c := range append(slices.Clone(elder.told), elder.mark) {
			region[c.Sector] = c.S
		}
		finds(t, "the elder one", region, elder.seq, elder.l)
		whole := true
		for i, c := range r.told {
			if d.below(3) > 0 {
				whole = whole && (i >= len(elder.told) || c.S == elder.told[i].S)
				region[c.Sector] = c.S
			}
		}
		if whole {
			elders++
			finds(t, "the elder one, with parts of another behind", region, elder.seq, elder.l)
		} else {
			findsNone(t, "parts of two", region)
		}
		region[0] = journal.Head(elder.seq)
		findsNone(t, "parts of two, and the elder one's head", region)
	}
	if elders < 20 {
		t.Errorf("just %d elder ones were left whole", elders)
	}
}

// P11.5: each sector of a record is needed: with its mark, and any one of them as it was, it isn't found.
func TestRecordNeedsAll(t *testing.T) {
	d := draws(8)
	for range 60 {
		size := 4 + d.below(66)
		r := d.record(t, size, d.number())
		elder := d.record(t, size, r.seq-1)
		region := d.before(elder, r)
		for lacks := range r.told {
			was := slices.Clone(region)
			for i, c := range append(slices.Clone(r.told), r.mark) {
				if i != lacks {
					was[c.Sector] = c.S
				}
			}
			if was[lacks+1] == r.told[lacks].S {
				continue
			}
			findsNone(t, "without one of its sectors", was)
		}
	}
}

// P11.5: so it is at a record's ends: of one change and of as many as there is room for, with the least number and the greatest.
func TestRecordEndsAreFound(t *testing.T) {
	for _, size := range []int{4, 5, 40, 62, 63, 64, 500} {
		for _, n := range []int{1, journal.Room(size)} {
			for _, seq := range []int{1, 2, most - 1, most} {
				l, mark, _ := journal.Record(size, seq, count(n))
				region := slices.Repeat([]string{strings.Repeat("\xff", 512)}, size)
				region[0] = journal.Head(seq - 1)
				for _, c := range l {
					region[c.Sector] = c.S
				}
				findsNone(t, "without its mark", region)
				region[mark.Sector] = mark.S
				finds(t, "with its mark", region, seq, count(n))
				region[0] = journal.Head(seq)
				findsNone(t, "done", region)
			}
		}
	}
}
