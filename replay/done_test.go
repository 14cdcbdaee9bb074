package replay_test

import (
	"math"
	"slices"
	"testing"

	"lockgate/api"
	"lockgate/disk"
	"lockgate/replay"
)

// looks fails the test, if Look doesn't tell what lies from one place on up to another.
func looks(t *testing.T, what string, d *disk.Disk, key, base, size int, want []string) {
	t.Helper()
	if got, e := replay.Look(d, key, base, size); !slices.Equal(got, want) || e != api.OK {
		t.Errorf("Look(%d, %d, %d), %s: %d sectors, %d, not %d", key, base, size, what, len(got), e, len(want))
	}
}

// looksNot fails the test, if Look doesn't tell just an error.
func looksNot(t *testing.T, what string, d *disk.Disk, key, base, size int, want api.Errno) {
	t.Helper()
	if got, e := replay.Look(d, key, base, size); len(got) > 0 || e != want {
		t.Errorf("Look(%d, %d, %d), %s: %d sectors, %d, not %d", key, base, size, what, len(got), e, want)
	}
}

// fencedDisk is one of so many sectors, at which keys 1 and 2 are registered, 3 is not, and 4 was.
func fencedDisk(sectors int) *disk.Disk {
	d := diskOf(sectors, 1, 2, 4)
	d.Fence(1, 4)
	d.Takes()
	return d
}

// P12.2: Look tells what lies in each sector, in order, of journals of any size that the disk has.
func TestLook(t *testing.T) {
	d := fencedDisk(50)
	l := lying(d)
	for base := range 50 {
		for size := range 51 - base {
			looks(t, "within the disk", d, 1, base, size, l[base:base+size])
		}
	}
	if !slices.Equal(lying(d), l) {
		t.Error("what lies on the disk is another thing")
	}
}

// P12.2: a key sees what it has written itself, as Read tells; others see it once it was flushed.
func TestLookOwnWrites(t *testing.T) {
	d := fencedDisk(50)
	l := lying(d)
	d.Write(1, 11, bytesOf(1))
	d.Write(1, 11, bytesOf(2))
	d.Write(2, 12, bytesOf(3))
	own := slices.Clone(l)
	own[11] = bytesOf(2)
	other := slices.Clone(l)
	other[12] = bytesOf(3)
	looks(t, "with its own writes", d, 1, 5, 40, own[5:45])
	looks(t, "with the other's writes", d, 2, 5, 40, other[5:45])
	looks(t, "with no writes", d, 1000, 5, 40, l[5:45])
	if d.Cached(1) != 2 || d.Cached(2) != 1 {
		t.Errorf("caches of %d and %d writes behind Look", d.Cached(1), d.Cached(2))
	}
	d.Flush(1)
	own[12] = bytesOf(3)
	looks(t, "once it is flushed", d, 2, 5, 40, own[5:45])
}

// P12.2: of sizes of 0 and below no sector is read, wherever they begin, so that there is no error either.
func TestLookOfNone(t *testing.T) {
	d := fencedDisk(50)
	for _, size := range []int{0, -1, -2, -40, -65536, math.MinInt + 1, math.MinInt} {
		for _, base := range []int{0, 1, 49, 50, 51, 1 << 40, math.MaxInt, -1, -40, math.MinInt} {
			for _, key := range []int{1, 3, 4, 0, -1} {
				looks(t, "no sector", d, key, base, size, nil)
			}
		}
	}
}

// P12.2: the first error alone is told: of a key that isn't registered, or was, where there is a sector; else that there is none.
func TestLookErrors(t *testing.T) {
	d := fencedDisk(50)
	for _, base := range []int{-1, -2, -40, math.MinInt, 50, 51, 65536, 1 << 40, math.MaxInt - 1, math.MaxInt} {
		for _, size := range []int{1, 2, 40, 100, 1 << 40, math.MaxInt} {
			for _, key := range []int{1, 2, 3, 4, 0, -1} {
				looksNot(t, "begun off the disk", d, key, base, size, api.ErrArg)
			}
		}
	}
	for _, base := range []int{0, 1, 10, 48, 49} {
		for _, more := range []int{1, 2, 39, 1000, 1 << 40} {
			looksNot(t, "beyond the disk's end", d, 1, base, 50-base+more, api.ErrArg)
		}
		looksNot(t, "far beyond", d, 1, base, math.MaxInt, api.ErrArg)
		for _, key := range []int{3, 4, 0, -1, math.MinInt, math.MaxInt} {
			for _, size := range []int{1, 2, 40, 100, math.MaxInt} {
				looksNot(t, "not registered", d, key, base, size, api.ErrFenced)
			}
		}
	}
	for _, base := range []int{0, 10, -1} {
		for _, size := range []int{1, 40, math.MaxInt} {
			looksNot(t, "no disk", nil, 1, base, size, api.ErrArg)
			looksNot(t, "a zero disk", &disk.Disk{}, 1, base, size, api.ErrArg)
		}
	}
}

// does fails the test, if Do doesn't tell how many steps were done, and that error.
func does(t *testing.T, what string, d *disk.Disk, key int, l []api.Step, want int, wantErr api.Errno) {
	t.Helper()
	if got, e := replay.Do(d, key, l); got != want || e != wantErr {
		t.Errorf("Do as %d, %s: %d, %d, not %d, %d", key, what, got, e, want, wantErr)
	}
}

// P12.2: of no steps none is done, and there is no error.
func TestDoNothing(t *testing.T) {
	d := fencedDisk(50)
	d.Write(1, 7, bytesOf(1))
	was := lying(d)
	for _, key := range []int{1, 2, 3, 4, 0, -1} {
		does(t, "nil", d, key, nil, 0, api.OK)
		does(t, "empty", d, key, []api.Step{}, 0, api.OK)
	}
	if d.Cached(1) != 1 || !slices.Equal(lying(d), was) {
		t.Error("no step did something")
	}
}

// P12.2: all steps are done, in order, as commands of that key: written ones stand in its cache, till they are flushed.
func TestDo(t *testing.T) {
	d := fencedDisk(50)
	was := lying(d)
	l := []api.Step{write(7, bytesOf(1)), write(9, bytesOf(2)), write(7, bytesOf(3)), write(0, bytesOf(4)), write(49, bytesOf(5))}
	does(t, "writes", d, 1, l, 5, api.OK)
	if d.Cached(1) != 5 || d.Cached(2) != 0 || !slices.Equal(lying(d), was) {
		t.Errorf("behind writes: %d in the cache, %d in the other one", d.Cached(1), d.Cached(2))
	}
	for sector, s := range map[int]string{7: bytesOf(3), 9: bytesOf(2), 0: bytesOf(4), 49: bytesOf(5)} {
		if got, _ := d.Read(1, sector); got != s {
			t.Errorf("sector %d is read as %q", sector, got[:4])
		}
		was[sector] = s
	}
	does(t, "another one's flush", d, 2, []api.Step{flush}, 1, api.OK)
	if d.Cached(1) != 5 {
		t.Error("another one's flush did something")
	}
	does(t, "a flush", d, 1, []api.Step{flush}, 1, api.OK)
	if d.Cached(1) != 0 || !slices.Equal(lying(d), was) {
		t.Errorf("behind a flush: %d in the cache", d.Cached(1))
	}
	does(t, "all in one", d, 2, []api.Step{flush, write(7, bytesOf(6)), flush, flush, write(7, bytesOf(7)), write(8, bytesOf(8))}, 6, api.OK)
	was[7] = bytesOf(6)
	if got, _ := d.Read(2, 7); got != bytesOf(7) || d.Cached(2) != 2 || !slices.Equal(lying(d), was) {
		t.Errorf("behind all in one: %q, %d in the cache", got[:4], d.Cached(2))
	}
}

// P12.2: what a write is lost by, by the disk, tells in which order steps were done: picks are taken write by write.
func TestDoInOrder(t *testing.T) {
	d := fencedDisk(50)
	does(t, "writes of one sector", d, 1, []api.Step{write(7, bytesOf(1)), write(7, bytesOf(2)), write(7, bytesOf(3))}, 3, api.OK)
	d.Drop(1, 1, 1, 0)
	if d.Peek(7) != bytesOf(2) {
		t.Errorf("in sector 7 lies %q", d.Peek(7)[:4])
	}
}

// P12.2: a Flush is one, whatever else its step says.
func TestDoFlushWithMore(t *testing.T) {
	for _, s := range []api.Step{{Flush: true, Sector: 9, S: bytesOf(2)}, {Flush: true, Sector: -1}, {Flush: true, Sector: 50, S: "x"}, {Flush: true, S: bytesOf(2)}, {Flush: true, Sector: math.MaxInt, S: bytesOf(2)}} {
		d := fencedDisk(50)
		was := lying(d)
		was[7] = bytesOf(1)
		does(t, "a flush that says more", d, 1, []api.Step{write(7, bytesOf(1)), s}, 2, api.OK)
		if d.Cached(1) != 0 || !slices.Equal(lying(d), was) {
			t.Errorf("behind %s: %d in the cache", short([]api.Step{s}), d.Cached(1))
		}
	}
}

// wrongSteps are steps that a disk of 50 sectors refuses.
var wrongSteps = []api.Step{
	write(-1, bytesOf(9)), write(math.MinInt, bytesOf(9)), write(50, bytesOf(9)), write(65536, bytesOf(9)), write(math.MaxInt, bytesOf(9)),
	write(7, ""), write(7, "x"), write(7, bytesOf(9)[1:]), write(7, bytesOf(9)+"x"), write(7, bytesOf(9)+bytesOf(9)), {},
}

// P12.2: up to the first error steps are done, and none behind it, whichever step it is.
func TestDoErrors(t *testing.T) {
	right := []api.Step{write(7, bytesOf(1)), flush, write(8, bytesOf(2)), write(9, bytesOf(3)), flush, write(10, bytesOf(4))}
	for _, wrong := range wrongSteps {
		for at := range len(right) + 1 {
			d, other := fencedDisk(50), fencedDisk(50)
			l := slices.Insert(slices.Clone(right), at, wrong)
			does(t, "with a wrong step", d, 1, l, at, api.ErrArg)
			does(t, "up to there", other, 1, right[:at], at, api.OK)
			if !slices.Equal(lying(d), lying(other)) || d.Cached(1) != other.Cached(1) {
				t.Errorf("behind an error at step %d other bytes lie there", at)
			}
			does(t, "with two wrong ones", d, 1, append(l, wrong), at, api.ErrArg)
		}
	}
	does(t, "two wrong ones", fencedDisk(50), 1, wrongSteps[:2], 0, api.ErrArg)
}

// P12.2: of a key that isn't registered, or was, or of no disk, the first step has the error, but where the step is wrong already.
func TestDoRefused(t *testing.T) {
	l := []api.Step{write(7, bytesOf(1)), flush, write(8, bytesOf(2))}
	for _, key := range []int{3, 4, 0, -1, math.MinInt, math.MaxInt} {
		d := fencedDisk(50)
		was := lying(d)
		does(t, "not registered", d, key, l, 0, api.ErrFenced)
		does(t, "not registered, a flush", d, key, l[1:], 0, api.ErrFenced)
		for _, wrong := range wrongSteps {
			does(t, "not registered, a wrong step", d, key, []api.Step{wrong, flush}, 0, api.ErrArg)
		}
		if d.Cached(key) != 0 || !slices.Equal(lying(d), was) {
			t.Errorf("key %d did something", key)
		}
	}
	for _, l := range [][]api.Step{l, l[1:], l[2:], wrongSteps} {
		does(t, "no disk", nil, 1, l, 0, api.ErrArg)
	}
	does(t, "a zero disk", &disk.Disk{}, 1, l, 0, api.ErrArg)
}

// P12.2: a fence that is asked for hinders no step; once it takes effect, all.
func TestDoBehindFences(t *testing.T) {
	d := fencedDisk(50)
	l := []api.Step{write(7, bytesOf(1)), flush, write(8, bytesOf(2))}
	d.Fence(2, 1)
	does(t, "a fence that is pending", d, 1, l, 3, api.OK)
	d.Takes()
	does(t, "behind a fence", d, 1, l, 0, api.ErrFenced)
	looksNot(t, "behind a fence", d, 1, 7, 2, api.ErrFenced)
}

// R3: what is handed in stays as it was, up to its capacity, and may be changed behind the call; what is told is its owner's.
func TestDoneMemory(t *testing.T) {
	d := fencedDisk(50)
	l := append(make([]api.Step, 0, 20), write(7, bytesOf(1)), write(8, bytesOf(2)), flush, write(9, bytesOf(3)))
	was := slices.Clone(l[:cap(l)])
	does(t, "all", d, 1, l, 4, api.OK)
	if !slices.Equal(l[:cap(l)], was) {
		t.Error("what was handed in is changed")
	}
	spoil(l)
	want := lying(d)
	want[9] = bytesOf(3)
	looks(t, "behind what was done to the steps", d, 1, 0, 50, want)
	region, _ := replay.Look(d, 1, 0, 50)
	spoil(region)
	looks(t, "behind what was done to what was told", d, 1, 0, 50, want)
	region, _ = replay.Look(d, 2, 9, 1)
	d.Flush(1)
	if region[0] == bytesOf(3) {
		t.Error("what was told changes later")
	}
}
