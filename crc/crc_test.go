package crc_test

import (
	"encoding/binary"
	"hash/crc32"
	"math/bits"
	"slices"
	"strings"
	"testing"

	"lockgate/crc"
)

// step is one step, as the chapter words it.
func step(c uint32) uint32 {
	twice := uint32(uint64(c) * 2 % (1 << 32))
	if c >= 1<<31 {
		return twice ^ 0x04c11db7
	}
	return twice
}

// state is the state behind s, from c on, as the chapter words it.
func state(c uint32, s string) uint32 {
	for _, x := range []byte(s) {
		c ^= uint32(x) * (1 << 24)
		for range 8 {
			c = step(c)
		}
	}
	return c
}

// sum is the sum of s, as the chapter words it.
func sum(s string) uint32 { return ^state(1<<32-1, s) }

// turned is the sum by way of the library's own, whose bits stand the other way round: quick, for long texts.
func turned(s string) uint32 {
	b := []byte(s)
	for i, x := range b {
		b[i] = bits.Reverse8(x)
	}
	return bits.Reverse32(crc32.ChecksumIEEE(b))
}

// rowed is the text that a row's sum is the sum of, made without the package.
func rowed(l []string) string {
	var b []byte
	for _, s := range l {
		b = append(binary.BigEndian.AppendUint64(b, uint64(len(s))), s...)
	}
	return string(b)
}

// draws are numbers that look like chance, the same at each run.
type draws uint64

func (d *draws) next() uint32 {
	*d = *d*6364136223846793005 + 1442695040888963407
	return uint32(*d >> 32)
}

func (d *draws) text(n int) string {
	b := make([]byte, n)
	for i := range b {
		b[i] = byte(d.next())
	}
	return string(b)
}

// texts are of many kinds: none, each byte by itself, all alike, and mixed.
func texts() []string {
	d := draws(1)
	l := []string{"", "a", "ab", "123456789", "\x00", "\xff\xff\xff\xff", "größer"}
	for x := range 256 {
		l = append(l, string([]byte{byte(x)}), string([]byte{0, byte(x), 1}))
	}
	for n := range 70 {
		l = append(l, d.text(n), strings.Repeat("\x00", n), strings.Repeat("\xff", n))
	}
	return append(l, d.text(511), d.text(512), d.text(513), d.text(70000))
}

// is fails if a sum is another one.
func is(t *testing.T, what string, got, want uint32) {
	t.Helper()
	if got != want {
		t.Errorf("%s: %08x, want %08x", what, got, want)
	}
}

// P2.1: the document's examples.
func TestExamples(t *testing.T) {
	is(t, "Of of nothing", crc.Of(), 0)
	is(t, "Of of an empty text", crc.Of(""), 0)
	is(t, "Of of no parts of a list", crc.Of([]string{}...), 0)
	is(t, "Of of a", crc.Of("a"), 0x19939b6b)
	is(t, "Of of 123456789", crc.Of("123456789"), 0xfc891918)
	is(t, "Add of 56789 to 1234", crc.Add(crc.Of("1234"), "56789"), 0xfc891918)
}

// P2.1: sums as the chapter words them.
func TestOf(t *testing.T) {
	for _, s := range texts() {
		if got, want := crc.Of(s), sum(s); got != want {
			t.Fatalf("Of of %d bytes %.40x: %08x, want %08x", len(s), s, got, want)
		}
		if got, want := crc.Of(s), turned(s); got != want {
			t.Fatalf("Of of %d bytes %.40x: %08x, the library's way %08x", len(s), s, got, want)
		}
	}
}

// P2.1: what is added to any number, be it a text's sum or not.
func TestAddToAny(t *testing.T) {
	d := draws(2)
	starts := []uint32{0, 1, 0xf, 0x10, 1<<28 - 1, 1 << 28, 1<<31 - 1, 1 << 31, 1<<32 - 2, 1<<32 - 1, 0x04c11db7, 0xfc891918}
	for i := range 32 {
		starts = append(starts, 1<<i, ^uint32(1<<i), d.next())
	}
	for _, c := range starts {
		is(t, "Add of nothing", crc.Add(c, ""), c)
		for _, s := range []string{"\x00", "\x01", "\x10", "\x80", "\xff", "ab", "123456789", strings.Repeat("\x00", 40), d.text(33)} {
			if got, want := crc.Add(c, s), ^state(^c, s); got != want {
				t.Errorf("Add(%08x, %x): %08x, want %08x", c, s, got, want)
			}
		}
	}
}

// P2.1: to a sum there is added what stands behind its text, once and again.
func TestAddToSum(t *testing.T) {
	whole, c := "", crc.Of()
	for i, s := range texts() {
		if whole += s; len(whole) > 20000 {
			whole, c = s, crc.Of()
		}
		if c = crc.Add(c, s); c != turned(whole) {
			t.Fatalf("Add of text %d: %08x, want %08x", i, c, turned(whole))
		}
	}
}

// cut cuts s behind each byte i whose bit i is set.
func cut(s string, where int) []string {
	var l []string
	from := 0
	for i := range len(s) {
		if where>>i&1 == 1 {
			l = append(l, s[from:i+1])
			from = i + 1
		}
	}
	return append(l, s[from:])
}

// P2.3: how a text is cut into parts does not matter, nor do empty parts.
func TestCuts(t *testing.T) {
	const s = "\x00cut \xffme!9"
	want := sum(s)
	for where := range 1 << len(s) {
		parts := cut(s, where)
		is(t, "Of of parts", crc.Of(parts...), want)
		is(t, "Of of parts and empty ones", crc.Of(strings.Split(strings.Join(parts, "||"), "|")...), want)
		added := uint32(0)
		for _, p := range parts {
			added = crc.Add(added, p)
		}
		is(t, "Add of parts", added, want)
	}
	is(t, "Of of empty parts", crc.Of("", "", ""), 0)
	is(t, "Of of parts in another order", crc.Of("56789", "1234"), sum("567891234"))
}

// flip turns those bits of s that are set in burst, whose greatest bit falls on bit at of s.
func flip(s string, burst uint32, at int) string {
	b := []byte(s)
	for i := range 32 {
		if burst>>(31-i)&1 == 1 {
			b[(at+i)/8] ^= 1 << (7 - (at+i)%8)
		}
	}
	return string(b)
}

// P2.3: texts of one length that differ in up to 32 bits in a row have other sums.
func TestBursts(t *testing.T) {
	d := draws(3)
	for _, s := range []string{strings.Repeat("\x00", 24), strings.Repeat("\xff", 24), d.text(24)} {
		want := crc.Of(s)
		for size := 1; size <= 32; size++ {
			ends := uint32(1)<<31 | uint32(1)<<(32-size)
			inner := uint32(1<<31-1) &^ (1<<(32-size) - 1) // what may be turned behind the row's first bit
			for at := range 24*8 - size + 1 {
				for _, mid := range []uint32{0, 1<<32 - 1, 0x04c11db7, d.next(), d.next()} {
					burst := ends | mid&inner
					if got := crc.Of(flip(s, burst, at)); got == want {
						t.Fatalf("%d bits from bit %d on, %08x turned: the same sum %08x", size, at, burst, got)
					}
				}
			}
		}
	}
}

// P2.3: every two bytes that differ, wherever they stand in a longer text, make another sum; so does every one bit.
func TestBytesDiffer(t *testing.T) {
	d := draws(4)
	text := d.text(512)
	want := crc.Of(text)
	for i := range 512 {
		for x := 1; x < 256; x++ {
			other := text[:i] + string([]byte{text[i] ^ byte(x)}) + text[i+1:]
			if crc.Of(other) == want {
				t.Fatalf("byte %d turned by %02x: the same sum", i, x)
			}
		}
	}
}

// rows are rows of few and of many texts, empty ones among them.
func rows() [][]string {
	d := draws(5)
	l := [][]string{nil, {}, {""}, {"", ""}, {"", "", ""}, {"a"}, {"", "a"}, {"a", ""}, {"ab"}, {"a", "b"}, {"b", "a"}, {"123456789"}, {strings.Repeat("\x00", 8)}}
	for _, n := range []int{255, 256, 257, 512, 65535, 65536, 65537, 70000} {
		l = append(l, []string{d.text(n)}, []string{"x", d.text(n), ""})
	}
	var many []string
	for n := range 300 {
		many = append(many, d.text(n))
		l = append(l, slices.Clone(many))
	}
	return l
}

// P2.2: a row's sum is the sum of its texts, with the count of each one ahead of it.
func TestRow(t *testing.T) {
	for _, l := range rows() {
		text := rowed(l)
		want := turned(text)
		is(t, "Row", crc.Row(l), want)
		is(t, "Of of the row's text", crc.Of(text), want)
	}
	is(t, "Row of nil", crc.Row(nil), 0)
	is(t, "Row of no texts", crc.Row([]string{}), 0)
	is(t, "Row of an empty text", crc.Row([]string{""}), sum("\x00\x00\x00\x00\x00\x00\x00\x00"))
	is(t, "Row of a and bc", crc.Row([]string{"a", "bc"}), sum("\x00\x00\x00\x00\x00\x00\x00\x01a\x00\x00\x00\x00\x00\x00\x00\x02bc"))
}

// P2.2: rows that are one text, otherwise cut, have other sums; so have rows of more or fewer empty texts.
func TestRowsCut(t *testing.T) {
	seen := map[uint32][]string{}
	all := [][]string{{}, {"", "abcdef"}, {"abcdef", ""}}
	for where := range 1 << 5 {
		all = append(all, cut("abcdef", where))
	}
	for n := 1; n <= 20; n++ {
		all = append(all, make([]string, n))
	}
	for _, l := range all {
		c := crc.Row(l)
		if other, there := seen[c]; there {
			t.Errorf("rows %q and %q: one sum %08x", l, other, c)
		}
		seen[c] = l
	}
}

// R5: a long text is told, too; its count needs a fourth byte.
func TestLong(t *testing.T) {
	d := draws(6)
	s := strings.Repeat(d.text(1<<12+1), 1<<12+7)
	if len(s) <= 1<<24 {
		t.Fatalf("%d bytes are too few", len(s))
	}
	is(t, "Of of a long text", crc.Of(s), turned(s))
	is(t, "Row of a long text", crc.Row([]string{s, "b"}), turned(rowed([]string{s, "b"})))
	many := strings.Split(s[:1<<20], "")
	is(t, "Of of many parts", crc.Of(many...), turned(s[:1<<20]))
	is(t, "Row of many texts", crc.Row(many), turned(rowed(many)))
}

// R3 and R4: what is handed in stays as it is, nothing is kept, and the same calls have the same answers.
func TestNothingKept(t *testing.T) {
	l := []string{"", "ab", strings.Repeat("c", 300), ""}
	was := slices.Clone(l)
	row, of, add := crc.Row(l), crc.Of(l...), crc.Add(7, "x")
	if !slices.Equal(l, was) {
		t.Errorf("what was handed in is %q now", l)
	}
	for i := range l {
		l[i] = "changed"
	}
	crc.Row(l)
	is(t, "Row once more", crc.Row(was), row)
	is(t, "Of once more", crc.Of(was...), of)
	is(t, "Add once more", crc.Add(7, "x"), add)
}
