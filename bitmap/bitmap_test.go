package bitmap_test

import (
	"math"
	"slices"
	"strings"
	"testing"

	"lockgate/bitmap"
)

// draws are numbers that look like chance, the same at each run.
type draws uint64

func (d *draws) below(n int) int {
	*d = *d*6364136223846793005 + 1442695040888963407
	return int(uint64(*d) >> 33 % uint64(n))
}

func (d *draws) text(n int) string {
	b := make([]byte, n)
	for i := range b {
		b[i] = byte(d.below(256))
	}
	return string(b)
}

// wide are the bits of s, as the chapter words them: bit i is that of worth 2^(i modulo 8) of byte i / 8.
func wide(s string) []bool {
	var l []bool
	for _, x := range []byte(s) {
		for range 8 {
			l = append(l, x%2 == 1)
			x /= 2
		}
	}
	return l
}

// narrow is the text of these bits, made without the package.
func narrow(l []bool) string {
	b := make([]byte, len(l)/8)
	for i, taken := range l {
		if taken {
			b[i/8] += []byte{1, 2, 4, 8, 16, 32, 64, 128}[i%8]
		}
	}
	return string(b)
}

// takenOf are the places of l that are so.
func takenOf(l []bool) []int {
	var places []int
	for i, taken := range l {
		if taken {
			places = append(places, i)
		}
	}
	return places
}

// firstOf is the first place of l from from on that is not taken, looked for one by one.
func firstOf(l []bool, from int) int {
	for i, taken := range l {
		if i >= from && !taken {
			return i
		}
	}
	return -1
}

func zeros(n int) string { return strings.Repeat("\x00", n) }
func fulls(n int) string { return strings.Repeat("\xff", n) }

// texts are of no bytes, of each byte by itself, of bits all alike, of one that is unlike the others, and mixed.
func texts() []string {
	d := draws(1)
	l := []string{"", "\x00\x02", "\xff\x01", "größer"}
	for x := range 256 {
		l = append(l, string([]byte{byte(x)}), string([]byte{255, byte(x), 0}))
	}
	for n := range 9 {
		l = append(l, zeros(n), fulls(n), d.text(n))
	}
	for i := range 40 {
		one := make([]bool, 40)
		one[i] = true
		s := narrow(one)
		turned := []byte(s)
		for at := range turned {
			turned[at] ^= 255
		}
		l = append(l, s, string(turned))
	}
	return append(l, zeros(500), fulls(500), d.text(500))
}

// around are places in and about a bitmap of so many bits: below 0, where dividing by 8 rounds up to 0, too; behind the last; far off.
func around(n int) []int {
	l := []int{math.MinInt, math.MinInt + 1, math.MinInt32, -4001, -64, -17, -16, -15, -9, -8, -7, -2, -1}
	for i := range min(n, 64) {
		l = append(l, i, n-1-i)
	}
	return append(l, n/2, n, n+1, n+7, n+8, n+9, n+4000, math.MaxInt32, math.MaxInt-1, math.MaxInt)
}

// sizes are numbers of bits: below 0, all that a bitmap may have, and above.
func sizes() []int {
	l := []int{math.MinInt, math.MinInt32, -4000, -9, -8, -7, -1}
	for n := range 4101 {
		l = append(l, n)
	}
	return append(l, 8000, 1<<16, 1<<20, math.MaxInt32, math.MaxInt-7, math.MaxInt-6, math.MaxInt)
}

// kept is n, kept from 0 to 4000.
func kept(n int) int {
	if n < 0 {
		return 0
	}
	if n > 4000 {
		return 4000
	}
	return n
}

// P3.1 to P3.3: the chapter's examples.
func TestExamples(t *testing.T) {
	if got := bitmap.New(9); got != "\x00\x00" {
		t.Errorf("New(9): %x", got)
	}
	if got := bitmap.Set("\x00\x00", 9, true); got != "\x00\x02" {
		t.Errorf("Set(00 00, 9, true): %x", got)
	}
	if first, count := bitmap.First("\xff\x01", 0), bitmap.Count("\xff\x01"); first != 9 || count != 9 {
		t.Errorf("First, Count of ff 01: %d, %d", first, count)
	}
}

// P3.1: as many bytes 0 as the bits need.
func TestNew(t *testing.T) {
	for _, n := range sizes() {
		bytes := 0
		for 8*bytes < kept(n) {
			bytes++
		}
		if got := bitmap.New(n); got != zeros(bytes) {
			t.Errorf("New(%d): %x, want %d bytes 0", n, got, bytes)
		}
	}
	for n, want := range map[int]int{-1: 0, 0: 0, 1: 1, 7: 1, 8: 1, 9: 2, 16: 2, 17: 3, 3992: 499, 3993: 500, 3999: 500, 4000: 500, 4001: 500, 4008: 500, 4009: 500} {
		if got := len(bitmap.New(n)); got != want {
			t.Errorf("New(%d): %d bytes, want %d", n, got, want)
		}
	}
}

// P3.1: 8 bits a byte, whatever they are, and also of texts that New doesn't make.
func TestLen(t *testing.T) {
	for _, s := range append(texts(), zeros(501), fulls(70000)) {
		if got, want := bitmap.Len(s), 8*len(s); got != want {
			t.Errorf("Len of %d bytes: %d, want %d", len(s), got, want)
		}
	}
}

// P3.1: what New makes is right, for just the numbers of bits that need as many bytes.
func TestRightOfNew(t *testing.T) {
	for _, n := range sizes() {
		if got, want := bitmap.Right(bitmap.New(n), n), n >= 0 && n <= 4000; got != want {
			t.Errorf("Right(New(%d), %d): %v", n, n, got)
		}
	}
	for bytes := range 503 {
		for _, n := range []int{8*bytes - 9, 8*bytes - 8, 8*bytes - 7, 8*bytes - 1, 8 * bytes, 8*bytes + 1, 8*bytes + 7, 8*bytes + 8} {
			want := n >= 0 && n <= 4000 && n > 8*bytes-8 && n <= 8*bytes
			if got := bitmap.Right(zeros(bytes), n); got != want {
				t.Errorf("Right of %d bytes 0, %d: %v, want %v", bytes, n, got, want)
			}
		}
	}
}

// P3.1: of the bits of the last byte from n on none is taken; those ahead may be.
func TestRightOfBits(t *testing.T) {
	for n := range 4001 {
		s := bitmap.New(n)
		l := make([]bool, 8*len(s))
		for i := range n {
			l[i] = true
		}
		if !bitmap.Right(narrow(l), n) {
			t.Errorf("Right with all of %d bits taken: false", n)
		}
		for i := n; i < len(l); i++ {
			one := make([]bool, len(l))
			one[i], l[i] = true, true
			if bitmap.Right(narrow(one), n) || bitmap.Right(narrow(l), n) {
				t.Errorf("Right of %d bits with bit %d taken: true", n, i)
			}
			l[i] = false
		}
	}
}

// P3.1: all texts of a byte and of two, for all numbers of bits about them.
func TestRightOfShort(t *testing.T) {
	for x := range 1 << 16 {
		s := string([]byte{byte(x), byte(x >> 8)})
		for n := -2; n < 26; n++ {
			if got, want := bitmap.Right(s, n), n > 8 && n <= 16 && x < 1<<n; got != want {
				t.Fatalf("Right(%x, %d): %v, want %v", s, n, got, want)
			}
			if got, want := bitmap.Right(s[:1], n), n > 0 && n <= 8 && x%256 < 1<<n; got != want {
				t.Fatalf("Right(%x, %d): %v, want %v", s[:1], n, got, want)
			}
		}
	}
}

// P3.1: no text is right for a number of bits that may not be, however many bytes it has.
func TestRightOfWrongSize(t *testing.T) {
	for _, n := range []int{math.MinInt, -4000, -8, -7, -1, 4001, 4007, 4008, 4009, 8000, math.MaxInt - 7, math.MaxInt} {
		for _, s := range []string{"", "\x00", zeros(499), zeros(500), zeros(501), zeros(502), zeros(1000), fulls(500), fulls(501)} {
			if bitmap.Right(s, n) {
				t.Errorf("Right of %d bytes, %d: true", len(s), n)
			}
		}
	}
}

// P3.2: whether a bit is taken; there are none below 0 and behind the last.
func TestHas(t *testing.T) {
	for _, s := range texts() {
		l := wide(s)
		for _, i := range around(len(l)) {
			if got, want := bitmap.Has(s, i), i >= 0 && i < len(l) && l[i]; got != want {
				t.Errorf("Has(%.20x, %d): %v, want %v", s, i, got, want)
			}
		}
	}
}

// P3.2 and P3.3: a bit is taken, or not, and no other one changes; where no bit is, nothing changes.
func TestSet(t *testing.T) {
	for _, s := range texts() {
		l := wide(s)
		was := slices.Clone(l)
		for _, i := range around(len(l)) {
			for _, taken := range []bool{true, false} {
				if i >= 0 && i < len(l) {
					l[i] = taken
				}
				if got, want := bitmap.Set(s, i, taken), narrow(l); got != want {
					t.Errorf("Set(%.20x, %d, %v): %.20x, want %.20x", s, i, taken, got, want)
				}
				copy(l, was)
			}
		}
	}
}

// P3.2 and P3.3: the first one that is not taken, from each place on.
func TestFirst(t *testing.T) {
	for _, s := range texts() {
		l := wide(s)
		for _, from := range around(len(l)) {
			if got, want := bitmap.First(s, from), firstOf(l, from); got != want {
				t.Errorf("First(%.20x, %d): %d, want %d", s, from, got, want)
			}
		}
	}
}

// P3.3: what First tells is not taken, and all ahead of it, from from on, are; as the package itself tells them.
func TestFirstFollows(t *testing.T) {
	d := draws(2)
	for range 3000 {
		s := fulls(d.below(6)) + d.text(d.below(3)) + fulls(d.below(6))
		from := d.below(8*len(s)+20) - 10
		first := bitmap.First(s, from)
		if first != -1 && (first < from || first < 0 || first >= bitmap.Len(s) || bitmap.Has(s, first)) {
			t.Fatalf("First(%x, %d): %d", s, from, first)
		}
		end := first
		if first == -1 {
			end = bitmap.Len(s)
		}
		for i := max(from, 0); i < end; i++ {
			if !bitmap.Has(s, i) {
				t.Fatalf("First(%x, %d): %d, but %d is not taken", s, from, first, i)
			}
		}
	}
}

// P3.2: there is none that is not taken, if all are, or if there are no bits from there on.
func TestFirstOfNone(t *testing.T) {
	for _, n := range []int{0, 1, 2, 499, 500, 501} {
		for _, from := range around(8 * n) {
			if got := bitmap.First(fulls(n), from); got != -1 {
				t.Errorf("First of %d bytes ff, %d: %d", n, from, got)
			}
			if got := bitmap.First(zeros(n), max(from, 8*n)); got != -1 {
				t.Errorf("First of %d bytes 0, %d: %d", n, max(from, 8*n), got)
			}
		}
		if n > 0 {
			last := fulls(n-1) + "\x7f"
			if a, b := bitmap.First(last, 0), bitmap.First(last, 8*n-1); a != 8*n-1 || b != a {
				t.Errorf("First of %d bytes whose last bit is not taken: %d, %d", n, a, b)
			}
		}
	}
}

// P3.2: how many are taken, and which, rising.
func TestCountAndEach(t *testing.T) {
	for _, s := range texts() {
		want := takenOf(wide(s))
		if got := bitmap.Count(s); got != len(want) {
			t.Errorf("Count(%.20x): %d, want %d", s, got, len(want))
		}
		if got := bitmap.Each(s); !slices.Equal(got, want) {
			t.Errorf("Each(%.20x): %v, want %v", s, got, want)
		}
	}
	if n, l := bitmap.Count(""), bitmap.Each(""); n != 0 || len(l) != 0 {
		t.Errorf("Count, Each of no bytes: %d, %v", n, l)
	}
	if n, l := bitmap.Count(fulls(500)), bitmap.Each(fulls(500)); n != 4000 || len(l) != 4000 || l[3999] != 3999 {
		t.Errorf("Count, Each of 500 bytes ff: %d, %d of them", n, len(l))
	}
}

// P3.2: all texts of two bytes.
func TestAllShort(t *testing.T) {
	for x := range 1 << 16 {
		s := string([]byte{byte(x), byte(x >> 8)})
		l := wide(s)
		if got, want := bitmap.Each(s), takenOf(l); !slices.Equal(got, want) || bitmap.Count(s) != len(want) {
			t.Fatalf("Each, Count of %x: %v, %d", s, got, bitmap.Count(s))
		}
		for i := -1; i <= 16; i++ {
			if got, want := bitmap.First(s, i), firstOf(l, i); got != want {
				t.Fatalf("First(%x, %d): %d, want %d", s, i, got, want)
			}
			if got, want := bitmap.Has(s, i), i >= 0 && i < 16 && l[i]; got != want {
				t.Fatalf("Has(%x, %d): %v, want %v", s, i, got, want)
			}
		}
	}
}

// P3.1 to P3.3: bits of a bitmap are taken and given back one by one, as by one who looks for room.
func TestTakenOneByOne(t *testing.T) {
	const n = 77
	s, d := bitmap.New(n), draws(3)
	for i := range n {
		if first := bitmap.First(s, 0); first != i || bitmap.Count(s) != i {
			t.Fatalf("behind %d taken ones: First %d, Count %d", i, first, bitmap.Count(s))
		}
		if s = bitmap.Set(s, i, true); !bitmap.Right(s, n) || !bitmap.Has(s, i) {
			t.Fatalf("with bit %d taken: %x", i, s)
		}
	}
	if got := bitmap.First(s, 0); got != n {
		t.Errorf("with all %d taken: First %d, want the first that only fills its byte", n, got)
	}
	for range 200 {
		i := d.below(n)
		if s = bitmap.Set(s, i, false); bitmap.Has(s, i) || bitmap.First(s, i) != i || slices.Contains(bitmap.Each(s), i) {
			t.Fatalf("with bit %d given back: %x", i, s)
		}
		s = bitmap.Set(s, i, true)
	}
	if full := bitmap.Set(s, n, true); bitmap.Right(full, n) || !bitmap.Right(full, n+1) {
		t.Errorf("Right with a bit behind the last one taken: %v, of one more: %v", bitmap.Right(full, n), bitmap.Right(full, n+1))
	}
}

// R5: texts of any length are told of; only New and Right know a greatest one.
func TestLong(t *testing.T) {
	const n = 1 << 18
	s := fulls(n) + "\xfe" + zeros(n)
	if bitmap.Len(s) != 8*(2*n+1) || bitmap.Count(s) != 8*n+7 || len(bitmap.Each(s)) != 8*n+7 {
		t.Errorf("Len, Count, Each: %d, %d, %d", bitmap.Len(s), bitmap.Count(s), len(bitmap.Each(s)))
	}
	if a, b := bitmap.First(s, -5), bitmap.First(s, 8*n+1); a != 8*n || b != 8*n+8 {
		t.Errorf("First: %d, %d", a, b)
	}
	last := bitmap.Set(s, 8*len(s)-1, true)
	if last != s[:len(s)-1]+"\x80" || !bitmap.Has(last, 8*len(s)-1) || bitmap.Has(last, 8*len(s)) {
		t.Errorf("Set of the last bit: another text")
	}
	if bitmap.Right(s, 8*len(s)) || bitmap.Right(zeros(n), 4000) {
		t.Errorf("Right of a long text: true")
	}
}

// all is what the calls tell of s.
func all(s string) []any {
	return []any{bitmap.Len(s), bitmap.Has(s, 3), bitmap.Set(s, 3, true), bitmap.Set(s, 3, false), bitmap.First(s, 2), bitmap.Count(s), bitmap.Right(s, 20)}
}

// R3 and R4: what was handed in stays as it is, what was told is its owner's, and the same calls have the same answers.
func TestNothingKept(t *testing.T) {
	s := "\x35\xff\x0e"
	was := []byte(s)
	set, each := bitmap.Set(s, 1, true), bitmap.Each(s)
	told, first := slices.Clone(each), all(s)
	for i := range each {
		each[i] = -7
	}
	if cap(each) > len(each) {
		_ = append(each, -7)
	}
	bitmap.Set(set, 0, false)
	if s != string(was) || set != "\x37\xff\x0e" {
		t.Errorf("what was handed in is %x, what was told of it %x now", s, set)
	}
	if again := bitmap.Each(s); !slices.Equal(again, told) {
		t.Errorf("Each once more: %v, want %v", again, told)
	}
	if again := all(s); !slices.Equal(again, first) {
		t.Errorf("once more: %v, want %v", again, first)
	}
	if bitmap.New(20) != zeros(3) {
		t.Errorf("New once more: %x", bitmap.New(20))
	}
}
