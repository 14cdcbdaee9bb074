package entry_test

import (
	"slices"
	"strings"
	"testing"

	"lockgate/api"
	"lockgate/entry"
)

// writes fails the test, if Bytes doesn't tell just that of a folder's list, and Read that list of it.
func writes(t *testing.T, what string, l []api.Entry, want string) {
	t.Helper()
	if got, e := entry.Bytes(l); got != want || e != api.OK {
		t.Errorf("Bytes, %s, of %d entries: %d bytes, %d, not %d", what, len(l), len(got), e, len(want))
	}
	reads(t, what, want, l)
	if got := entry.Size(l); got != len(want) {
		t.Errorf("Size, %s, of %d entries: %d, not %d", what, len(l), got, len(want))
	}
}

// refuses fails the test, if Bytes takes l for a folder's list.
func refuses(t *testing.T, what string, l []api.Entry) {
	t.Helper()
	if got, e := entry.Bytes(l); got != "" || e != api.ErrArg {
		t.Errorf("Bytes, %s, of %v: %d bytes, %d", what, l[:min(len(l), 5)], len(got), e)
	}
}

// reads fails the test, if Read doesn't tell just that list.
func reads(t *testing.T, what, s string, want []api.Entry) {
	t.Helper()
	if got, e := entry.Read(s); !slices.Equal(got, want) || e != api.OK {
		t.Errorf("Read, %s, of %d bytes %x: %d entries, %d, not %d", what, len(s), s[:min(len(s), 40)], len(got), e, len(want))
	}
}

// readsNone fails the test, if Read takes a text for a list's.
func readsNone(t *testing.T, what, s string) {
	t.Helper()
	if got, e := entry.Read(s); len(got) > 0 || e != api.ErrForm {
		t.Errorf("Read, %s, of %d bytes %x: %d entries, %d", what, len(s), s[:min(len(s), 80)], len(got), e)
	}
}

// P15.2: lists' bytes, by number: of no entry, of one and of some.
func TestBytes(t *testing.T) {
	writes(t, "nil", nil, "")
	writes(t, "empty", []api.Entry{}, "")
	writes(t, "the example", []api.Entry{{Name: "a", Sector: 7}}, "\x00\x01a\x00\x00\x00\x07")
	writes(t, "two", []api.Entry{{Name: "B", Sector: 65535}, {Name: "b.c", Sector: 258}}, "\x00\x01B\x00\x00\xff\xff\x00\x03b.c\x00\x00\x01\x02")
	x := strings.Repeat("x", 30)
	writes(t, "a long name", []api.Entry{{Name: x, Sector: 0}}, "\x00\x1e"+x+"\x00\x00\x00\x00")
	for _, l := range [][]api.Entry{
		named("-", ".-", "...", "0", "9", "A", "Z", "_", "a", "z"), named("a", "a-", "a.", "a0", "aA", "aZ", "a_", "aa", "aaa", "ab"), named("A", "B", "a", "b"), named("Z", "a"),
		{{Name: "a", Sector: 5}, {Name: "b", Sector: 5}}, {{Name: "a", Sector: 65535}, {Name: "b", Sector: 0}}, {{Name: "a", Sector: 0}, {Name: "b", Sector: 0}, {Name: "c", Sector: 256}},
	} {
		writes(t, "some", l, written(l))
	}
	for _, n := range []int{2, 170, 3000, 66000} {
		writes(t, "many", many(n), written(many(n)))
	}
}

// P15.2: names that don't rise, or are there twice, at each place.
func TestBytesOrder(t *testing.T) {
	for _, l := range [][]api.Entry{named("b", "a"), named("a", "a"), named("a", "A"), named("a", "b", "a"), named("a", "b", "b"), named("a", "a", "b"), named("b", "a", "c"), named("a", "c", "b"), named("aa", "a"), named("a", "Z"), named("a0", "a.")} {
		refuses(t, "not rising", l)
		readsNone(t, "not rising", written(l))
	}
	for i := range 11 {
		l := many(12)
		l[i], l[i+1] = l[i+1], l[i]
		refuses(t, "turned round", l)
		readsNone(t, "turned round", written(l))
		l = many(12)
		l[i+1].Name = l[i].Name
		refuses(t, "a name twice", l)
		readsNone(t, "a name twice", written(l))
	}
	l := many(12)
	l[11].Name = l[0].Name
	refuses(t, "a name twice, far apart", l)
	readsNone(t, "a name twice, far apart", written(l))
}

// P15.2: names that aren't ones, at each place; the others stand so that nothing else is wrong.
func TestBytesNames(t *testing.T) {
	for _, wrong := range []string{"", ".", "..", strings.Repeat("m", 31), "m n", "m/", "m\x00", "m:", "m\u00e4", "\xff", "m\xff", " ", "\x00"} {
		for _, others := range [][]string{nil, {"-"}, {"-", "-0"}} {
			for _, behind := range [][]string{nil, {"x"}, {"x", "y", "z"}} {
				l := named(slices.Concat(others, []string{wrong}, behind)...)
				refuses(t, "a wrong name", l)
				readsNone(t, "a wrong name", written(l))
			}
		}
	}
	for _, n := range []int{31, 32, 256, 65535, 65536, 65537, 70000} {
		l := named("a", "b"+strings.Repeat("m", n-1))
		refuses(t, "a long name", l)
		readsNone(t, "a long name", written(l))
	}
	writes(t, "a name as long as may be", named("a", "b"+strings.Repeat("m", 29)), written(named("a", "b"+strings.Repeat("m", 29))))
}

// P15.2: sectors at the edges and beyond, at each place.
func TestBytesSectors(t *testing.T) {
	for i := range 3 {
		for _, sector := range []int{0, 1, 255, 256, 65534, 65535} {
			l := named("a", "b", "c")
			l[i].Sector = sector
			writes(t, "a right sector", l, written(l))
		}
		for _, sector := range far {
			l := named("a", "b", "c")
			l[i].Sector = sector
			refuses(t, "a wrong sector", l)
			refuses(t, "a wrong sector alone", l[i:i+1])
		}
		for _, sector := range []int{65536, 65537, 1 << 24, 1 << 31, 1<<32 - 1} {
			l := named("a", "b", "c")
			l[i].Sector = sector
			readsNone(t, "a wrong sector", written(l))
		}
	}
}

// reading fails the test, if Read doesn't tell what the chapter's words tell; it tells whether that is a list.
func reading(t *testing.T, what, s string) bool {
	t.Helper()
	l, ok := readAs(s)
	if ok {
		reads(t, what, s, l)
	} else {
		readsNone(t, what, s)
	}
	return ok
}

// P15.2: texts that are cut short at each place, or have more behind: at an entry's end they are another list's, else none's.
func TestReadCut(t *testing.T) {
	l := named("-", "a", "b.c", strings.Repeat("x", 30))
	s := written(l)
	ends, lists := []int{0, 7, 14, 23, 59}, 0
	for n := range len(s) + 1 {
		if reading(t, "cut short", s[:n]) {
			lists++
			if !slices.Contains(ends, n) {
				t.Errorf("cut behind %d bytes it is a list", n)
			}
		}
		reading(t, "cut short ahead", s[n:])
	}
	if lists != len(ends) {
		t.Errorf("%d of the cut ones were lists", lists)
	}
	for _, more := range []string{"\x00", "\x00\x00", "\x00\x00\x00\x00\x00\x00", "\x00\x01", "\x00\x01z", "\x00\x01z\x00\x00\x00", s, "\x00\x01a\x00\x00\x00\x01", "\xff\xff", "a"} {
		readsNone(t, "with more behind", s+more)
		readsNone(t, "of what is more alone, twice", more+more)
	}
	reads(t, "with one more behind", s+"\x00\x01z\x00\x00\x00\x01", append(l, api.Entry{Name: "z", Sector: 1}))
	for _, n := range []int{1, 2, 6, 7, 512, 1 << 20} {
		readsNone(t, "bytes 0", strings.Repeat("\x00", n))
		readsNone(t, "bytes ff", strings.Repeat("\xff", n))
	}
}

// P15.2: texts of which a byte is turned, to each other one: another list's, or none's.
func TestReadTurned(t *testing.T) {
	others := 0
	for _, l := range [][]api.Entry{named("a"), named("a", "b.c"), {{Name: "A", Sector: 65535}, {Name: "B", Sector: 0}, {Name: strings.Repeat("b", 30), Sector: 300}}} {
		s := written(l)
		for i := range len(s) {
			for x := range 256 {
				if reading(t, "turned", s[:i]+string([]byte{byte(x)})+s[i+1:]) {
					others++
				}
			}
		}
	}
	if others < 2000 {
		t.Errorf("just %d were lists", others)
	}
}

// P15.2: drawn lists are read as they were, and texts made of parts of them as the chapter's words tell.
func TestReadDrawn(t *testing.T) {
	d, lists := draws(3), 0
	for range 3000 {
		l := d.list(d.below(9))
		s := written(l)
		writes(t, "drawn", l, s)
		other := written(d.list(d.below(4)))
		from, to := d.below(len(s)+1), d.below(len(s)+1)
		if reading(t, "of parts", s[:min(from, to)]+other+s[max(from, to):]) {
			lists++
		}
	}
	if lists < 20 {
		t.Errorf("just %d of the parts were lists", lists)
	}
}

// P15.2: Size of any list: each name's bytes and 6.
func TestSize(t *testing.T) {
	size := func(l []api.Entry, want int) {
		t.Helper()
		if got := entry.Size(l); got != want {
			t.Errorf("Size of %d entries: %d, not %d", len(l), got, want)
		}
	}
	size(nil, 0)
	size([]api.Entry{}, 0)
	size(named("a"), 7)
	size(named("b", "a", "a"), 21)
	size(named(""), 6)
	size(named("", "", ""), 18)
	size(named("..", "\u00e4"), 16)
	size(named(strings.Repeat("x", 30)), 36)
	size(named(strings.Repeat("x", 31), strings.Repeat("y", 100000)), 100043)
	size(many(1000), 13000)
	for _, sector := range append(far, 0, 65535) {
		size([]api.Entry{{Name: "abc", Sector: sector}}, 9)
	}
}
