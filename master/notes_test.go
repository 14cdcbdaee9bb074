package master_test

import (
	"math"
	"slices"
	"strings"
	"testing"

	"lockgate/api"
	"lockgate/master"
)

// big is a number as so many bytes, the greatest first.
func big(n, size int) string {
	b := make([]byte, size)
	for i := range b {
		b[i] = byte(uint64(n) >> (8 * (size - 1 - i)))
	}
	return string(b)
}

// bytesOf are a note's, put by hand, also of one that may not be.
func bytesOf(n api.Note) string {
	return big(n.Kind, 2) + big(n.Epoch, 8) + big(n.Res, 2) + big(n.Mode, 2) + big(n.Seq, 8)
}

// field is one of a note's, with numbers that it may be, at both ends and between, and others.
type field struct {
	name        string
	of          func(n *api.Note) *int
	right, not  []int
	from, bytes int // where it stands, and how many bytes it has
}

// fields are all of a note's.
func fields() []field {
	counts := []int{0, 1, 255, 256, 65536, 1<<32 + 7, 1<<40 - 1, 1 << 40}
	wrong := []int{-1, -256, 1<<40 + 1, 1 << 41, 1 << 48, 1<<56 + 1, 1 << 62, math.MinInt, math.MaxInt}
	return []field{
		{"Kind", func(n *api.Note) *int { return &n.Kind }, []int{1, 2, 3, 4, 5}, []int{0, -1, 6, 7, 256, 257, 65536, 65537, 1<<32 + 1, math.MinInt, math.MaxInt}, 0, 2},
		{"Epoch", func(n *api.Note) *int { return &n.Epoch }, counts, wrong, 2, 8},
		{"Res", func(n *api.Note) *int { return &n.Res }, []int{0, 1, 7, 14, 15}, []int{-1, 16, 17, 255, 256, 65536, 65537, 1 << 32, math.MinInt, math.MaxInt}, 10, 2},
		{"Mode", func(n *api.Note) *int { return &n.Mode }, []int{0, 1, 2}, []int{-1, 3, 4, 256, 257, 65536, 65537, 1<<32 + 1, math.MinInt, math.MaxInt}, 12, 2},
		{"Seq", func(n *api.Note) *int { return &n.Seq }, counts, wrong, 14, 8},
	}
}

// some are notes that may be, each field of which is one of its first and its last right numbers.
func some() []api.Note {
	l := []api.Note{{}}
	for _, f := range fields() {
		var all []api.Note
		for _, n := range l {
			for _, i := range []int{0, len(f.right) / 2, len(f.right) - 1} {
				*f.of(&n) = f.right[i]
				all = append(all, n)
			}
		}
		l = all
	}
	return l
}

// is fails the test, if a note isn't written as these bytes, or these aren't read as it.
func is(t *testing.T, n api.Note, s string) {
	t.Helper()
	if got, e := master.Bytes(n); got != s || e != api.OK {
		t.Errorf("Bytes of %v tells %x, %d, not %x", n, got, e, s)
	}
	if got, e := master.Read(s); got != n || e != api.OK {
		t.Errorf("Read of %x tells %v, %d, not %v", s, got, e, n)
	}
}

// isNone fails the test, if these bytes are read as a note.
func isNone(t *testing.T, s string) {
	t.Helper()
	if got, e := master.Read(s); got != (api.Note{}) || e != api.ErrForm {
		t.Errorf("Read of %x tells %v, %d", s, got, e)
	}
}

// P10.1: a note's bytes, as they stand in the chapter.
func TestBytes(t *testing.T) {
	n := api.Note{Kind: 4, Epoch: 0x0102030405, Res: 15, Mode: 2, Seq: 0x060708}
	is(t, n, "\x00\x04\x00\x00\x00\x01\x02\x03\x04\x05\x00\x0f\x00\x02\x00\x00\x00\x00\x00\x06\x07\x08")
	is(t, api.Note{Kind: 1}, "\x00\x01"+strings.Repeat("\x00", 20))
	last := api.Note{Kind: 5, Epoch: api.MaxEpoch, Res: api.MaxRes - 1, Mode: 2, Seq: api.MaxEpoch}
	is(t, last, "\x00\x05\x00\x00\x01\x00\x00\x00\x00\x00\x00\x0f\x00\x02\x00\x00\x01\x00\x00\x00\x00\x00")
}

// P10.1: each field from its least to its greatest number, with all others' least and greatest ones, is written and read again.
func TestEachRight(t *testing.T) {
	for _, n := range some() {
		for _, f := range fields() {
			for _, i := range f.right {
				now := n
				*f.of(&now) = i
				is(t, now, bytesOf(now))
			}
		}
	}
}

// P10.1: a note of which one field is beyond what it may be is neither written nor read.
func TestEachWrong(t *testing.T) {
	for _, n := range some() {
		for _, f := range fields() {
			for _, i := range f.not {
				now := n
				*f.of(&now) = i
				if s, e := master.Bytes(now); s != "" || e != api.ErrArg {
					t.Errorf("Bytes with %s %d tells %x, %d", f.name, i, s, e)
				}
				if f.bytes == 8 || i >= 0 && i < 1<<16 {
					isNone(t, bytesOf(now))
				}
			}
		}
	}
}

// P10.1: the zero note may not be, nor one of which several fields are wrong.
func TestSeveralWrong(t *testing.T) {
	for _, n := range []api.Note{
		{}, {Kind: 6, Mode: 3}, {Kind: -1, Epoch: -1, Res: -1, Mode: -1, Seq: -1}, {Kind: 9, Epoch: 1 << 50, Res: 99, Mode: 9, Seq: 1 << 50},
	} {
		if s, e := master.Bytes(n); s != "" || e != api.ErrArg {
			t.Errorf("Bytes of %v tells %x, %d", n, s, e)
		}
	}
}

// P10.1: all that is too short or too long is no note.
func TestWrongSizes(t *testing.T) {
	for _, n := range some() {
		s := bytesOf(n)
		for i := range s {
			isNone(t, s[:i])
			isNone(t, s[i+1:])
		}
		isNone(t, s+"\x00")
		isNone(t, "\x00"+s)
		isNone(t, s+s)
	}
	isNone(t, strings.Repeat("\x00", 22))
	isNone(t, strings.Repeat("\xff", 22))
	isNone(t, strings.Repeat("\x00\x01", 1<<20))
}

// numberOf is what bytes say, the greatest first; beyond what any field may be, if they say more than that.
func numberOf(s string) int {
	n := 0
	for i := range len(s) {
		n = min(n<<8|int(s[i]), 1<<41)
	}
	return n
}

// byHand is the note whose bytes s is, taken apart by hand, and whether it may be.
func byHand(s string) (api.Note, bool) {
	n := api.Note{Kind: numberOf(s[:2]), Epoch: numberOf(s[2:10]), Res: numberOf(s[10:12]), Mode: numberOf(s[12:14]), Seq: numberOf(s[14:])}
	return n, n.Kind >= 1 && n.Kind <= 5 && n.Epoch <= 1<<40 && n.Res <= 15 && n.Mode <= 2 && n.Seq <= 1<<40
}

// asByHand fails the test, if s isn't read as it is by hand, and tells whether it is a note.
func asByHand(t *testing.T, s string) bool {
	t.Helper()
	n, ok := byHand(s)
	if ok {
		is(t, n, s)
	} else {
		isNone(t, s)
	}
	return ok
}

// P10.1: each byte of a note as each other one: what is read is the note with just these bytes, or none.
func TestEachByte(t *testing.T) {
	for _, n := range some() {
		s, right := bytesOf(n), 0
		for i := range s {
			for b := range 256 {
				if asByHand(t, s[:i]+string([]byte{byte(b)})+s[i+1:]) {
					right++
				}
			}
		}
		if right < 22 || right == 22*256 {
			t.Errorf("%d of the bytes beside %x are notes", right, s)
		}
	}
}

// P10.1: drawn bytes are read as the note whose they are, or as none.
func TestDrawnBytes(t *testing.T) {
	d := draws(10)
	right := 0
	for range 100000 {
		var s string
		for _, f := range fields() {
			all := slices.Concat(f.right, f.right, f.right, f.not)
			s += big(all[d.below(len(all))], f.bytes)
		}
		if asByHand(t, s) {
			right++
		}
	}
	if right < 5000 || right > 95000 {
		t.Errorf("%d of the drawn bytes are notes", right)
	}
}

// P10.1: whose a resource is.
func TestOf(t *testing.T) {
	for _, c := range []struct {
		res     int
		members []int
		want    int
	}{
		{0, nil, -1},
		{0, []int{}, -1},
		{3, nil, -1},
		{-1, nil, -1},
		{0, []int{5}, 5},
		{1, []int{5}, 5},
		{15, []int{5}, 5},
		{-1, []int{5}, -1},
		{0, []int{2, 5, 7}, 2},
		{1, []int{2, 5, 7}, 5},
		{2, []int{2, 5, 7}, 7},
		{3, []int{2, 5, 7}, 2},
		{4, []int{2, 5, 7}, 5},
		{15, []int{2, 5, 7}, 2},
		{16, []int{2, 5, 7}, 5},
		{-1, []int{2, 5, 7}, -1},
		{-3, []int{2, 5, 7}, -1},
		{-4, []int{2, 5, 7}, -1},
		{math.MinInt, []int{2, 5, 7}, -1},
		{math.MaxInt, []int{2, 5, 7}, []int{2, 5, 7}[math.MaxInt%3]},
		{1, []int{7, 2, 5}, 2},
		{2, []int{4, 4, 4}, 4},
		{1, []int{-9, 99}, 99},
		{2, []int{-9, 99}, -9},
		{7, []int{0, 1, 2, 3, 4, 5, 6, 7}, 7},
		{8, []int{0, 1, 2, 3, 4, 5, 6, 7}, 0},
	} {
		if got := master.Of(c.res, c.members); got != c.want {
			t.Errorf("Of(%d, %v) tells %d, not %d", c.res, c.members, got, c.want)
		}
	}
}

// P10.1: of so many members, each has every so manieth resource.
func TestOfEach(t *testing.T) {
	for many := 1; many <= 20; many++ {
		var members []int
		for i := range many {
			members = append(members, 100-i)
		}
		for res := range 100 {
			place := res
			for place >= many {
				place -= many
			}
			if got := master.Of(res, members); got != 100-place {
				t.Errorf("of %d members, %d has %d", many, got, res)
			}
		}
	}
}
