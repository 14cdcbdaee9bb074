package replay_test

import (
	"math"
	"slices"
	"strings"
	"testing"

	"lockgate/api"
	"lockgate/journal"
	"lockgate/replay"
)

// bases are where journals may begin, also far off and below 0.
var bases = []int{0, 1, 2, 10, 42, 65535, 65536, 1 << 31, 1 << 40, math.MaxInt - 1000, -1, -2, -40, -65536, math.MinInt}

// The chapter's examples.
func TestExamples(t *testing.T) {
	l := []api.Change{{Sector: 99, S: bytesOf('x')}}
	log, e := replay.Log(10, 40, 1, l)
	if e != api.OK || len(log) != 5 {
		t.Fatalf("Log: %s, %d", short(log), e)
	}
	first := "\x00\x12" + "LGD1" + "\x00\x00\x00\x00\x00\x00\x00\x01" + "\x00\x01" + "\x00\x00\x00\x63" + strings.Repeat("\x00", 492)
	if log[3].S[:16] != "\x00\x12"+"LGC1"+"\x00\x00\x00\x00\x00\x00\x00\x01"+"\x00\x01" || len(log[3].S) != 512 {
		t.Errorf("the mark is %x", log[3].S)
	}
	same(t, "Log", log, []api.Step{write(11, first), write(12, bytesOf('x')), flush, write(49, log[3].S), flush})
	head := "\x00\x0c" + "LGH1" + "\x00\x00\x00\x00\x00\x00\x00\x01" + strings.Repeat("\x00", 498)
	same(t, "Home", replay.Home(10, 1, l), []api.Step{write(99, bytesOf('x')), flush, write(10, head), flush})
}

// logs fails the test, if Log doesn't tell the record's steps.
func logs(t *testing.T, base, size, seq int, l []api.Change) {
	t.Helper()
	got, e := replay.Log(base, size, seq, l)
	if e != api.OK {
		t.Fatalf("Log(%d, %d, %d, %d changes): %d", base, size, seq, len(l), e)
	}
	same(t, "Log", got, logOf(t, base, size, seq, l))
}

// P12.1: Log of one change, of several, and of as many as there is room for, from any base on, with the least and the greatest numbers.
func TestLog(t *testing.T) {
	for _, base := range bases {
		for _, size := range []int{4, 5, 6, 40, 62, 63, 64, 500} {
			for _, n := range []int{1, min(2, size-3), journal.Room(size)} {
				for _, seq := range []int{1, 2, most - 1, most} {
					logs(t, base, size, seq, count(7, n))
				}
			}
		}
		logs(t, base, 40, 5, rowOf(0))
		logs(t, base, 40, 5, rowOf(65535))
		logs(t, base, 40, 5, rowOf(0, 9, 255, 256, 65534, 65535))
	}
}

// P12.1: where a base leads beyond all numbers, Log tells as many steps.
func TestLogBeyondNumbers(t *testing.T) {
	for _, base := range []int{math.MaxInt, math.MaxInt - 1, math.MaxInt - 38} {
		if got, e := replay.Log(base, 40, 1, count(7, 3)); len(got) != 7 || e != api.OK {
			t.Errorf("Log from %d on: %s, %d", base, short(got), e)
		}
	}
	if got, e := replay.Log(5, math.MaxInt, 1, count(7, 3)); len(got) != 7 || e != api.OK {
		t.Errorf("Log of a long journal: %s, %d", short(got), e)
	}
}

// wrongRows are lists that are no row of changes.
func wrongRows() map[string][]api.Change {
	with := func(s string) []api.Change {
		l := rowOf(3, 5, 9)
		l[1].S = s
		return l
	}
	return map[string][]api.Change{
		"nil": nil, "empty": {}, "a sector twice": rowOf(3, 5, 5), "falling": rowOf(5, 3), "below 0": rowOf(-1, 3), "beyond": rowOf(3, 65536), "far beyond": rowOf(math.MaxInt),
		"no bytes": with(""), "511 bytes": with(bytesOf(1)[1:]), "513 bytes": with(bytesOf(1) + "\x01"), "1024 bytes": with(bytesOf(1) + bytesOf(1)),
	}
}

// P12.1: Log tells what journal.Record says is wrong, and nothing beside it.
func TestLogErrors(t *testing.T) {
	refuses := func(what string, size, seq int, l []api.Change, want api.Errno) {
		t.Helper()
		for _, base := range []int{0, 10, -3, 1 << 40} {
			if got, e := replay.Log(base, size, seq, l); len(got) > 0 || e != want {
				t.Errorf("Log(%d, %d, %d, %d changes), %s: %s, %d, not %d", base, size, seq, len(l), what, short(got), e, want)
			}
		}
	}
	for _, seq := range []int{0, -1, -most, math.MinInt, most + 1, math.MaxInt} {
		refuses("a wrong seq", 40, seq, count(7, 1), api.ErrArg)
		refuses("a wrong seq, and too many", 4, seq, count(7, 9), api.ErrArg)
	}
	for what, l := range wrongRows() {
		refuses(what, 40, 1, l, api.ErrArg)
		refuses(what+", and no room", 3, 1, l, api.ErrArg)
	}
	for _, size := range []int{4, 5, 40, 62, 63, 64, 500, math.MaxInt} {
		refuses("one too many", size, 1, count(7, journal.Room(size)+1), api.ErrFull)
		refuses("far too many", size, most, count(7, 300), api.ErrFull)
	}
	for _, size := range []int{3, 2, 1, 0, -1, -40, math.MinInt} {
		refuses("no room", size, 1, count(7, 1), api.ErrFull)
	}
}

// P12.1: Home of no change, of one and of many, in their order, whatever they are.
func TestHome(t *testing.T) {
	lists := [][]api.Change{nil, {}, rowOf(99), rowOf(0), rowOf(65535), rowOf(3, 4, 9), count(100, 37), count(100, 60), count(0, 500)}
	for _, l := range wrongRows() {
		lists = append(lists, l)
	}
	for _, l := range lists {
		for _, base := range append(bases, math.MaxInt) {
			for _, seq := range []int{0, 1, 2, 255, most - 1, most} {
				same(t, "Home", replay.Home(base, seq, l), homeOf(base, seq, l))
			}
		}
	}
}

// P12.1: the head that Home writes is journal.Head's, also of a number beyond those that heads say.
func TestHomeHeads(t *testing.T) {
	for _, h := range [][2]int{{most + 1, most}, {2 * most, most}, {math.MaxInt, most}, {-1, 0}, {math.MinInt, 0}, {0, 0}, {258, 258}} {
		got := replay.Home(10, h[0], rowOf(99))
		same(t, "Home", got, homeOf(10, h[0], rowOf(99)))
		if done, ok := journal.Done(got[2].S); done != h[1] || !ok {
			t.Errorf("Home with %d writes a head of %d, %t", h[0], done, ok)
		}
	}
}

// redoes fails the test, if Redo doesn't tell the way home of a record.
func redoes(t *testing.T, what string, base int, region []string, seq int, l []api.Change) {
	t.Helper()
	got, n := replay.Redo(base, region)
	same(t, "Redo, "+what, got, homeOf(base, seq, l))
	if n != seq {
		t.Fatalf("Redo, %s: seq %d, not %d", what, n, seq)
	}
}

// redoesNone fails the test, if Redo tells anything.
func redoesNone(t *testing.T, what string, base int, region []string) {
	t.Helper()
	if got, n := replay.Redo(base, region); len(got) > 0 || n != 0 {
		t.Fatalf("Redo, %s: %s, %d, not nothing", what, short(got), n)
	}
}

// P12.1: Redo of journals in which a record lies.
func TestRedo(t *testing.T) {
	for _, base := range append(bases, math.MaxInt) {
		for _, size := range []int{4, 5, 40, 64} {
			for _, n := range []int{1, journal.Room(size)} {
				for _, seq := range []int{1, 2, most - 1, most} {
					region := regionOf(t, size, seq-1, seq, count(7, n))
					redoes(t, "one that is next", base, region, seq, count(7, n))
					region[0] = journal.Head(0)
					redoes(t, "one far ahead", base, region, seq, count(7, n))
				}
			}
		}
		redoes(t, "at the ends of sectors", base, regionOf(t, 9, 0, 1, rowOf(0, 65535)), 1, rowOf(0, 65535))
	}
}

// P12.1: Redo of journals in which none lies: empty, too short, done already, without a mark, turned.
func TestRedoOfNone(t *testing.T) {
	for _, base := range []int{0, 10, -7, math.MaxInt} {
		redoesNone(t, "nil", base, nil)
		redoesNone(t, "empty", base, []string{})
		redoesNone(t, "of bytes 0", base, slices.Repeat([]string{bytesOf(0)}, 40))
		redoesNone(t, "of empty texts", base, make([]string, 40))
		region := regionOf(t, 6, 4, 5, rowOf(9, 12))
		for n := range region {
			redoesNone(t, "cut short", base, region[:n])
			redoesNone(t, "cut short ahead", base, region[n+1:])
		}
		for _, done := range []int{5, 6, most} {
			redoesNone(t, "done already", base, append([]string{journal.Head(done)}, region[1:]...))
		}
		for i := range region {
			if i == 4 { // behind the changes, ahead of the mark: nothing of the record's
				continue
			}
			for _, s := range []string{"", bytesOf(0), bytesOf(0xff), region[(i+1)%6]} {
				turned := slices.Clone(region)
				turned[i] = s
				redoesNone(t, "with another sector", base, turned)
			}
			for _, at := range []int{0, 1, 5, 13, 511} {
				turned := slices.Clone(region)
				b := []byte(turned[i])
				b[at] ^= 0x10
				turned[i] = string(b)
				redoesNone(t, "with a byte turned", base, turned)
			}
		}
	}
}

// P12.1: Redo tells what journal.Scan finds, of journals that are made up of any sectors.
func TestRedoIsScan(t *testing.T) {
	d, found := draws(1), 0
	for range 4000 {
		size, seq := 4+d.below(5), 2+d.below(3)
		l := d.row(1+d.below(size-3), 90, 0, 1)
		region := regionOf(t, size, seq-1+d.below(2)*d.below(2), seq, l)
		other := regionOf(t, size, seq-2, seq-1, d.row(len(l), 90, 0, 1))
		for i := range region {
			if d.below(2*size) == 0 {
				region[i] = other[d.below(size)]
			}
		}
		n, changes, ok := journal.Scan(region)
		if !ok {
			redoesNone(t, "of any sectors", 10, region)
			continue
		}
		found++
		redoes(t, "of any sectors", 10, region, n, changes)
	}
	if found < 500 || found > 3500 {
		t.Errorf("%d of 4000 had a record", found)
	}
}

// spoil writes over all of a list, as far as it has room.
func spoil[T any](l []T) {
	var none T
	l = l[:cap(l)]
	for i := range l {
		l[i] = none
	}
}

// R3: what is handed in stays as it was, up to its capacity, and what is told is its owner's.
func TestStepsMemory(t *testing.T) {
	l := append(make([]api.Change, 0, 90), count(7, 30)...)
	was := slices.Clone(l[:cap(l)])
	region := append(make([]string, 0, 90), regionOf(t, 40, 0, 1, l)...)
	wasRegion := slices.Clone(region[:cap(region)])
	for range 2 {
		log, _ := replay.Log(10, 40, 1, l)
		home := replay.Home(10, 1, l)
		redo, _ := replay.Redo(10, region)
		wantLog, wantHome := logOf(t, 10, 40, 1, count(7, 30)), homeOf(10, 1, count(7, 30))
		same(t, "Log", log, wantLog)
		same(t, "Home", home, wantHome)
		same(t, "Redo", redo, wantHome)
		spoil(log)
		same(t, "Home, behind what was done to Log's", home, wantHome)
		spoil(home)
		same(t, "Redo, behind what was done to Home's", redo, wantHome)
		spoil(redo)
		if !slices.Equal(l[:cap(l)], was) || !slices.Equal(region[:cap(region)], wasRegion) {
			t.Fatal("what was handed in is changed")
		}
	}
	log, _ := replay.Log(10, 40, 1, l)
	home := replay.Home(10, 1, l)
	redo, _ := replay.Redo(10, region)
	spoil(l)
	spoil(region)
	same(t, "Log, behind what was done to the changes", log, logOf(t, 10, 40, 1, count(7, 30)))
	same(t, "Home, behind what was done to the changes", home, homeOf(10, 1, count(7, 30)))
	same(t, "Redo, behind what was done to the region", redo, homeOf(10, 1, count(7, 30)))
}
