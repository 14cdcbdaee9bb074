package journal_test

import (
	"math"
	"slices"
	"strings"
	"testing"

	"lockgate/api"
	"lockgate/journal"
)

// records fails the test, if Record doesn't tell the record, byte by byte.
func records(t *testing.T, size, seq int, l []api.Change) {
	t.Helper()
	w := writtenOf(size, 0, uint64(seq), l)
	want := []api.Change{{Sector: 1, S: w.first()}}
	for i, c := range l {
		want = append(want, api.Change{Sector: 2 + i, S: c.S})
	}
	got, mark, e := journal.Record(size, seq, l)
	if !slices.Equal(got, want) || mark != (api.Change{Sector: size - 1, S: w.mark()}) || e != api.OK {
		t.Errorf("Record(%d, %d, %s): %s, %s, %d", size, seq, short(l), short(got), short([]api.Change{mark}), e)
	}
}

// refuses fails the test, if Record doesn't tell just an error.
func refuses(t *testing.T, what string, size, seq int, l []api.Change, want api.Errno) {
	t.Helper()
	got, mark, e := journal.Record(size, seq, l)
	if len(got) > 0 || mark != (api.Change{}) || e != want {
		t.Errorf("Record, %s: %s, %s, %d, not %d", what, short(got), short([]api.Change{mark}), e, want)
	}
}

// P11.3: a small record, byte by byte.
func TestRecordOfTwo(t *testing.T) {
	a, b := strings.Repeat("a", 512), strings.Repeat("b", 512)
	got, mark, e := journal.Record(40, 258, []api.Change{{Sector: 9, S: a}, {Sector: 772, S: b}})
	first := "\x00\x16" + "LGD1" + "\x00\x00\x00\x00\x00\x00\x01\x02" + "\x00\x02" + "\x00\x00\x00\x09" + "\x00\x00\x03\x04" + strings.Repeat("\x00", 488)
	if want := []api.Change{{Sector: 1, S: first}, {Sector: 2, S: a}, {Sector: 3, S: b}}; !slices.Equal(got, want) || e != api.OK {
		t.Errorf("Record tells %s, %d", short(got), e)
	}
	sum := four(sumOf([]string{first, a, b}))
	if want := "\x00\x12" + "LGC1" + "\x00\x00\x00\x00\x00\x00\x01\x02" + "\x00\x02" + sum + strings.Repeat("\x00", 492); mark.Sector != 39 || mark.S != want {
		t.Errorf("the mark is %d: %x, not %x", mark.Sector, mark.S, want)
	}
}

// P11.3: numbers of records, at both ends and beyond.
func TestRecordNumbers(t *testing.T) {
	for _, seq := range []int{1, 2, 255, 256, 1<<32 - 1, 1 << 32, 0x0102030405, most - 1, most} {
		records(t, 40, seq, count(1))
		records(t, 40, seq, rowOf(0, 1, 256, 65535))
	}
	for _, seq := range []int{0, -1, -most, math.MinInt, most + 1, 2 * most, 1<<62 + 1, math.MaxInt} {
		refuses(t, "a wrong seq", 40, seq, count(1), api.ErrArg)
		refuses(t, "a wrong seq, and no room", 3, seq, count(1), api.ErrArg)
	}
}

// wrongLists are none that a record may have.
func wrongLists() map[string][]api.Change {
	all := map[string][]api.Change{
		"nil": nil, "no change": {}, "falling": rowOf(2, 1), "twice": rowOf(1, 1), "twice and behind": rowOf(1, 2, 2, 3), "the first once more": rowOf(1, 2, 1), "falling at last": rowOf(1, 2, 3, 2), "falling at first": rowOf(3, 1, 4),
		"below 0": rowOf(-1), "below 0 ahead": rowOf(-1, 0), "far below 0": rowOf(math.MinInt, 3), "above": rowOf(65536), "above behind": rowOf(65535, 65536), "2^32": rowOf(1 << 32), "2^32 behind": rowOf(0, 1<<32+1), "far above": rowOf(0, math.MaxInt), "full, and twice": append(count(60), rowOf(59)...),
	}
	for what, n := range map[string]int{"no bytes": 0, "a byte": 1, "511 bytes": 511, "513 bytes": 513, "1024 bytes": 1024} {
		for i, place := range []string{" at first", " between", " at last"} {
			l := rowOf(4, 5, 6)
			l[i].S = strings.Repeat("x", n)
			all[what+place] = l
		}
		all[what] = []api.Change{{Sector: 4, S: strings.Repeat("x", n)}}
	}
	return all
}

// P11.3: lists that are no rows; also where there is no room for them.
func TestRecordOfNoRow(t *testing.T) {
	for what, l := range wrongLists() {
		for _, size := range []int{math.MinInt, -1, 0, 3, 4, 40, 63, 1000, math.MaxInt} {
			refuses(t, what, size, 1, l, api.ErrArg)
			refuses(t, what+", a wrong seq", size, 0, l, api.ErrArg)
		}
	}
	long := count(40000)
	long[39999].Sector = 39998
	refuses(t, "a long one", 40, 1, long, api.ErrArg)
}

// P11.3: rows at the ends of what sectors there are.
func TestRecordEnds(t *testing.T) {
	for _, l := range [][]api.Change{rowOf(0), rowOf(65535), rowOf(0, 65535), rowOf(0, 1), rowOf(65534, 65535), rowOf(255, 256, 257)} {
		records(t, 40, 3, l)
	}
}

// P11.3: as many changes as there is room for, and one more.
func TestRecordRoom(t *testing.T) {
	for size := -3; size <= 70; size++ {
		room := max(min(size-3, 60), 0)
		for n := 1; n <= 64; n++ {
			if n <= room {
				records(t, size, size+n+3, count(n))
			} else {
				refuses(t, "no room", size, 1, count(n), api.ErrFull)
			}
		}
	}
	for _, size := range []int{math.MinInt, math.MinInt + 1, math.MinInt + 2, math.MinInt + 3, -1000, 0, 1, 2, 3} {
		refuses(t, "no room at all", size, most, count(1), api.ErrFull)
	}
	for _, size := range []int{63, 64, 1000, 1 << 40, math.MaxInt} {
		records(t, size, most, count(60))
		refuses(t, "one more than a record may have", size, most, count(61), api.ErrFull)
		refuses(t, "far more than a record may have", size, most, count(65536), api.ErrFull)
	}
}

// P11.3: the bytes themselves are of no account, also those of lines.
func TestRecordOfAnyBytes(t *testing.T) {
	w := writtenOf(8, 1, 2, count(2))
	var l []api.Change
	for i, s := range []string{headOf(5), w.first(), w.mark(), strings.Repeat("\x00", 512), strings.Repeat("\xff", 512)} {
		l = append(l, api.Change{Sector: 7 * i, S: s})
	}
	records(t, 8, 2, l)
	records(t, 40, 1, l)
	d := draws(3)
	for range 300 {
		n := 1 + d.below(60)
		records(t, n+3+d.below(9), 1+int(d.next()), d.row(n))
	}
}

// P11.3: the mark's place is none of the others, so that no change's bytes ever stand there.
func TestRecordPlaces(t *testing.T) {
	for size := 4; size <= 80; size++ {
		l, mark, _ := journal.Record(size, 1, count(journal.Room(size)))
		for i, c := range l {
			if c.Sector != i+1 || c.Sector >= mark.Sector {
				t.Errorf("of size %d, place %d is %d, and the mark's %d", size, i, c.Sector, mark.Sector)
			}
		}
	}
}

// R3, R4: what is handed to Record stays as it was, and has nothing to do with what is told.
func TestRecordLeavesLists(t *testing.T) {
	whole := count(9)
	was := slices.Clone(whole)
	one, mark, _ := journal.Record(40, 7, whole[:4])
	other, otherMark, _ := journal.Record(40, 7, whole[:4])
	if !slices.Equal(whole, was) || !slices.Equal(one, other) || mark != otherMark {
		t.Errorf("Record has made %s of %s", short(whole), short(was))
	}
	blot(one)
	if !slices.Equal(whole, was) {
		t.Errorf("what Record told lies in what was handed in")
	}
	blot(whole)
	if again, _, _ := journal.Record(40, 7, was[:4]); !slices.Equal(other, again) {
		t.Errorf("what Record told has become %s", short(other))
	}
}
