package journal_test

import (
	"encoding/binary"
	"slices"
	"strings"
	"testing"

	"lockgate/api"
	"lockgate/journal"
)

// The chapter's examples.
func TestExamples(t *testing.T) {
	l := []api.Change{{Sector: 9, S: strings.Repeat("9", 512)}}
	told, mark, e := journal.Record(40, 1, l)
	if len(told) != 2 || told[0].Sector != 1 || told[1].Sector != 2 || mark.Sector != 39 || e != api.OK {
		t.Fatalf("Record tells %s, %d, %d", short(told), mark.Sector, e)
	}
	region := slices.Repeat([]string{strings.Repeat("\x00", 512)}, 40)
	for _, c := range append(told, mark) {
		region[c.Sector] = c.S
	}
	region[0] = journal.Head(0)
	finds(t, "behind Head(0)", region, 1, l)
	region[0] = journal.Head(1)
	findsNone(t, "behind Head(1)", region)
}

// P11.4: regions in which there is nothing, or of one place.
func TestScanOfNothing(t *testing.T) {
	findsNone(t, "nil", nil)
	findsNone(t, "empty", []string{})
	w := writtenOf(40, 0, 1, count(1))
	for _, s := range []string{"", "\x00", strings.Repeat("\x00", 512), headOf(0), headOf(most), w.first(), w.mark(), strings.Repeat("x", 70000)} {
		for n := range 70 {
			findsNone(t, "the same everywhere", slices.Repeat([]string{s}, n))
		}
		findsNone(t, "a head and the same twice", []string{headOf(0), s, s})
		findsNone(t, "a head, a first line and the same", []string{headOf(0), w.first(), s})
	}
	for n := range 70 {
		l := slices.Repeat([]string{strings.Repeat("\x00", 512)}, n)
		if n > 0 {
			l[0] = headOf(0)
		}
		findsNone(t, "a new journal", l)
	}
	findsNone(t, "no change's place", []string{headOf(0), w.first(), w.mark()})
}

// P11.4: a record is found, as many changes as it has, and however many places lie behind it.
func TestScanFinds(t *testing.T) {
	for _, n := range []int{1, 2, 3, 36, 37, 59, 60} {
		for _, more := range []int{0, 1, 2, 17, 400} {
			w := writtenOf(n+3+more, 0, 1, count(n))
			finds(t, "a row", w.region(), 1, count(n))
		}
	}
	for _, l := range [][]api.Change{rowOf(0), rowOf(65535), rowOf(0, 65535), rowOf(255, 256, 65534, 65535)} {
		finds(t, "at the ends of sectors", writtenOf(9, 0, 1, l).region(), 1, l)
	}
}

// P11.4: heads below a record, with its number, and above.
func TestScanHeads(t *testing.T) {
	seqs := []uint64{1, 2, 3, 255, 256, 1 << 32, most - 1, most}
	for _, seq := range seqs {
		for _, done := range append(seqs, 0, seq-1, seq, seq+1) {
			region := writtenOf(8, done, seq, count(2)).region()
			if done < seq && done <= most {
				finds(t, "a head below", region, int(seq), count(2))
			} else {
				findsNone(t, "a head that isn't below", region)
			}
		}
	}
	for _, done := range []uint64{most + 1, 1 << 48, 1 << 63, 1<<64 - 1} {
		findsNone(t, "a great head", writtenOf(8, done, most, count(2)).region())
	}
	for what, head := range map[string]string{
		"nothing": "", "bytes 0": strings.Repeat("\x00", 512), "a first line": writtenOf(8, 0, 1, count(2)).first(), "a mark": writtenOf(8, 0, 1, count(2)).mark(),
		"a head cut short": headOf(0)[:511], "a head and more": headOf(0) + "\x00", "another sign": filled("LGH0" + eight(0)), "a longer line": filled("LGH1" + eight(0) + "\x00"),
	} {
		region := writtenOf(8, 0, 1, count(2)).region()
		region[0] = head
		findsNone(t, "no head, but "+what, region)
	}
}

// P11.4: numbers that no record may have, with a mark of the same.
func TestScanNumbers(t *testing.T) {
	for _, seq := range []uint64{0, most + 1, 2 * most, 1 << 48, 1 << 63, 1<<63 + 5, 1<<64 - 1} {
		for _, done := range []uint64{0, 1, most - 1, most} {
			findsNone(t, "a wrong seq", writtenOf(8, done, seq, count(2)).region())
		}
	}
}

// P11.4: no changes, or more than a record may have, or than lie there, with a mark of the same.
func TestScanCounts(t *testing.T) {
	for size := 3; size < 10; size++ {
		findsNone(t, "no changes", writtenOf(size, 0, 1, nil).region())
	}
	for _, n := range []int{61, 62, 64, 124} {
		for _, size := range []int{n + 3, n + 4, 300} {
			findsNone(t, "too many changes", writtenOf(size, 0, 1, count(n)).region())
		}
	}
	for n := 1; n <= 60; n++ {
		region := writtenOf(n+3, 0, 1, count(n)).region()
		for size := range n + 3 {
			findsNone(t, "cut short", region[:size])
			if size > 0 {
				findsNone(t, "cut short, with a mark", append(slices.Clone(region[:size-1]), region[n+2]))
			}
		}
		for _, told := range []int{0, 1, n - 1, n + 1, n + 256, 256, 65535} {
			w := writtenOf(n+3, 0, 1, count(n))
			if w.n = told; told == n {
				continue
			}
			findsNone(t, "another count than changes in the line", w.region())
			w.size = 200
			findsNone(t, "another count, and places enough", w.region())
		}
	}
}

// solved is an x of which f tells x itself, if there is one. What f tells of some bits is put together by an exclusive or of what it tells of each, so each bit of x is an equation, and these are solved one by one.
func solved(f func(uint32) uint32) (uint32, bool) {
	none := f(0)
	var rows [32]uint64 // of each bit of what f tells: on which bits of x it hangs, beside itself; and, 2^32, whether it is there without any
	for j := range 32 {
		turns := f(1<<j) ^ none ^ 1<<j
		for i := range rows {
			rows[i] |= uint64(turns>>i&1)<<j | uint64(none>>i&1)<<32
		}
	}
	x := uint32(0)
	for j := range 32 {
		at := slices.IndexFunc(rows[j:], func(r uint64) bool { return r>>j&1 == 1 })
		if at < 0 {
			return 0, false
		}
		rows[j], rows[j+at] = rows[j+at], rows[j]
		for i := range rows {
			if i != j && rows[i]>>j&1 == 1 {
				rows[i] ^= rows[j]
			}
		}
	}
	for j, r := range rows {
		x |= uint32(r>>32) << j
	}
	return x, f(x) == x
}

// P11.4: a mark that is a change's bytes as well, of which its own sum is right, isn't behind all of them.
func TestScanMarkInAChange(t *testing.T) {
	tried := 0
	for seq := uint64(1); seq < 30; seq++ {
		for n := range 3 {
			w := writtenOf(n+3, 0, seq, count(n+1))
			mark := func(sum uint32) string { return lineOf("LGC1", seq, n+1, four(sum)) }
			sum, ok := solved(func(sum uint32) uint32 {
				w.texts[n] = mark(sum)
				return sumOf(slices.Concat([]string{w.first()}, w.texts))
			})
			if !ok {
				continue
			}
			tried++
			w.texts[n] = mark(sum)
			region := w.region()
			if region[n+2] != mark(sum) {
				t.Fatal("the mark isn't that of itself")
			}
			findsNone(t, "a mark in a change", region)
		}
	}
	if tried == 0 {
		t.Error("there is no mark that is its own")
	}
}

// P11.4: changes that are no row, with a mark of the same.
func TestScanOfNoRow(t *testing.T) {
	for _, sectors := range [][]uint32{
		{1, 1}, {2, 1}, {0, 0}, {65535, 65535}, {1, 2, 2}, {1, 3, 2}, {3, 1, 2}, {1, 2, 1}, {65535, 0},
		{65536}, {65537}, {0, 65536}, {1 << 31}, {1<<31 - 1}, {1<<32 - 1}, {5, 1<<32 - 1}, {1<<32 - 1, 5},
	} {
		w := writtenOf(9, 0, 1, count(len(sectors)))
		w.sectors = sectors
		findsNone(t, "no row", w.region())
	}
	for n := 2; n <= 60; n++ {
		for _, i := range []int{0, (n - 1) / 2, n - 2} {
			w := writtenOf(63, 0, 1, count(n))
			w.sectors[i], w.sectors[i+1] = w.sectors[i+1], w.sectors[i]
			findsNone(t, "two that are changed", w.region())
		}
	}
}

// P11.4: sectors of other lengths, with a mark of the same.
func TestScanLengths(t *testing.T) {
	for _, n := range []int{0, 1, 511, 513, 1024, 70000} {
		for i := range 3 {
			w := writtenOf(9, 0, 1, count(3))
			w.texts[i] = strings.Repeat("x", n)
			findsNone(t, "a change of another length", w.region())
		}
	}
	region := writtenOf(9, 0, 1, count(3)).region()
	for i := range region {
		for _, s := range []string{"", region[i][:511], region[i][1:], region[i] + "\x00", region[i] + region[i], "\x00" + region[i]} {
			other := slices.Clone(region)
			other[i] = s
			scan(t, "a place of another length", other)
			if i < 5 || i == 8 {
				findsNone(t, "one of its places of another length", other)
			}
		}
	}
	// A first line that ends in bytes 0 is the same text when some of these lack: the mark may fit that.
	w := writtenOf(9, 0, 1, count(1))
	for _, line := range []string{w.first()[:511], w.first() + "\x00", w.first()[:20], w.first()[2:]} {
		region := w.region()
		region[1], region[8] = line, lineOf("LGC1", 1, 1, four(sumOf([]string{line, w.texts[0]})))
		findsNone(t, "a first line of another length", region)
	}
}

// P11.4: other first lines, with a mark of the same.
func TestScanFirstLines(t *testing.T) {
	w := writtenOf(9, 0, 1, count(2))
	say := func(line string) []string {
		region := w.region()
		region[1], region[8] = line, lineOf("LGC1", 1, 2, four(sumOf([]string{line, w.texts[0], w.texts[1]})))
		return region
	}
	good := eight(1) + two(2) + four(0) + four(1)
	finds(t, "as it should be", say(filled("LGD1"+good)), 1, count(2))
	for _, line := range []string{
		"LGD0" + good, "LGD2" + good, "LGC1" + good, "LGH1" + good, "lgd1" + good, "\x00\x00\x00\x00" + good, good, "", "LGD1",
		"LGD1" + good + "\x00", "LGD1" + good + four(2), "LGD1" + good[:len(good)-1], "LGD1" + good[:len(good)-4], "LGD1" + good[:10], "LGD1" + good + strings.Repeat("\x00", 488),
	} {
		findsNone(t, "another first line", say(filled(line)))
	}
	for _, s := range []string{filled("LGD1" + good)[:511] + "\x01", "LGD1" + good + strings.Repeat("\x00", 490), two(511) + filled("LGD1" + good)[2:], two(65535) + filled("LGD1" + good)[2:]} {
		findsNone(t, "another first line's sector", say(s))
	}
}

// P11.4: marks that are missing, or are others.
func TestScanMarks(t *testing.T) {
	w := writtenOf(9, 3, 5, count(3))
	l := w.region()
	spoil := func(what, mark string) {
		t.Helper()
		region := slices.Clone(l)
		region[8] = mark
		findsNone(t, what, region)
	}
	sum := sumOf(slices.Concat([]string{w.first()}, w.texts))
	finds(t, "as it should be", append(l[:8:8], filled("LGC1"+eight(5)+two(3)+four(sum))), 5, count(3))
	for _, line := range []string{
		"", "LGC1", "LGC0" + eight(5) + two(3) + four(sum), "LGD1" + eight(5) + two(3) + four(sum), "LGH1" + eight(5) + two(3) + four(sum), "lgc1" + eight(5) + two(3) + four(sum),
		"LGC1" + eight(4) + two(3) + four(sum), "LGC1" + eight(6) + two(3) + four(sum), "LGC1" + eight(1<<63+5) + two(3) + four(sum), "LGC1" + eight(0) + two(3) + four(sum),
		"LGC1" + eight(5) + two(2) + four(sum), "LGC1" + eight(5) + two(4) + four(sum), "LGC1" + eight(5) + two(0) + four(sum), "LGC1" + eight(5) + two(259) + four(sum),
		"LGC1" + eight(5) + two(3) + four(sum+1), "LGC1" + eight(5) + two(3) + four(^sum), "LGC1" + eight(5) + two(3) + four(0),
		"LGC1" + eight(5) + two(3) + four(sumOf(w.texts)), "LGC1" + eight(5) + two(3) + four(sumOf([]string{w.first()})), "LGC1" + eight(5) + two(3) + four(sumOf([]string{w.first() + strings.Join(w.texts, "")})),
		"LGC1" + eight(5) + two(3) + four(sum) + "\x00", "LGC1" + eight(5) + two(3) + four(sum)[:3], "LGC1" + eight(5) + two(3) + four(sum) + four(sum),
	} {
		spoil("another mark", filled(line))
	}
	spoil("a mark and more", w.mark()[:511]+"\x01")
	spoil("a mark that isn't filled", "LGC1"+eight(5)+two(3)+four(sum)+strings.Repeat("\x00", 494))
	for what, s := range map[string]string{
		"bytes 0": strings.Repeat("\x00", 512), "the head": l[0], "the first line": l[1], "a change": l[2], "no bytes": "",
		"the one behind": writtenOf(9, 3, 6, count(3)).mark(), "the one ahead": writtenOf(9, 3, 4, count(3)).mark(), "a shorter one": writtenOf(9, 3, 5, count(2)).mark(), "one of other sectors": writtenOf(9, 3, 5, rowOf(0, 1, 3)).mark(),
	} {
		spoil("a mark of another: "+what, s)
	}
	for place := 1; place < 8; place++ {
		region := slices.Clone(l)
		region[place], region[8] = region[8], strings.Repeat("\x00", 512)
		findsNone(t, "a mark at another place", region)
		region[8] = headOf(0)
		findsNone(t, "a mark at another place, and a head", region)
	}
	for size := range 9 {
		findsNone(t, "a mark at no place", l[:size])
	}
	for _, more := range []string{"", strings.Repeat("\x00", 512), headOf(0)} {
		findsNone(t, "a mark ahead of the last place", append(slices.Clone(l), more))
	}
	finds(t, "a mark at two places", append(slices.Clone(l), l[8]), 5, count(3))
}

// P11.4: each bit of each byte of what is looked at matters; of the rest none.
func TestScanTurned(t *testing.T) {
	for _, w := range []written{writtenOf(6, 0, 1, count(2)), writtenOf(7, 5, 6, rowOf(0, 65535)), writtenOf(9, most-1, most, rowOf(77))} {
		region := w.region()
		for i := range w.size {
			for at := range 512 {
				for bit := range 8 {
					scanTurned(t, w, region, i, at, bit)
				}
			}
		}
	}
	long := writtenOf(64, 0, 1<<32, count(60))
	region := long.region()
	for i := range long.size {
		for at := 7 - i%8; at < 512; at += 11 {
			scanTurned(t, long, region, i, at, at%8)
		}
	}
}

// scanTurned holds Scan of a journal in which a bit of one place is turned against the chapter's words: of the head another one may have come.
func scanTurned(t *testing.T, w written, region []string, place, at, bit int) {
	t.Helper()
	was := region[place]
	b := []byte(was)
	b[at] ^= 1 << bit
	region[place] = string(b)
	done, ok := said(region[0])
	looked := place > 0 && place < 2+w.n || place == w.size-1
	if ok && uint64(done) < w.seq && !looked {
		finds(t, "a bit turned that doesn't matter", region, int(w.seq), w.changes())
	} else {
		findsNone(t, "a bit turned", region)
	}
	region[place] = was
}

// P11.4: what is found of journals that are spoilt in drawn ways is what the chapter's words tell.
func TestScanDrawn(t *testing.T) {
	d := draws(4)
	kept := 0
	for range 6000 {
		n := 1 + d.below(4)
		w := writtenOf(n+3+d.below(3), uint64(d.below(4)), uint64(d.below(5)), d.row(n))
		switch d.below(8) {
		case 0:
			w.n = d.below(6)
		case 1:
			w.sectors[d.below(n)] = d.next()
		case 2:
			w.sectors[d.below(n)] = uint32(d.below(70000))
		case 3:
			w.texts[d.below(n)] = d.sector()[:d.below(513)]
		case 4:
			w.done, w.seq = uint64(d.next())<<d.below(32), uint64(d.next())<<d.below(32)
		}
		region := w.region()
		for range d.below(3) {
			to, from := d.below(len(region)), d.below(len(region))
			region[to] = region[from]
		}
		scan(t, "drawn", region)
		if _, _, ok := found(region); ok {
			kept++
		}
	}
	if kept < 500 {
		t.Errorf("just %d were whole", kept)
	}
}

// P1: journals of arbitrary bytes, with signs and counts at their places.
func TestScanOfAnyBytes(t *testing.T) {
	d := draws(5)
	for range 3000 {
		var region []string
		for range d.below(8) {
			b := make([]byte, []int{0, 1, 2, 16, 511, 512, 513}[d.below(7)])
			for i := range b {
				b[i] = byte(d.next() * uint32(d.below(2)))
			}
			if len(b) > 16 {
				binary.BigEndian.PutUint16(b, uint16(d.below(600)))
				copy(b[2:], []string{"LGH1", "LGD1", "LGC1"}[d.below(3)])
				b[14], b[15] = byte(d.below(2)), byte(d.below(70))
			}
			region = append(region, string(b))
		}
		scan(t, "any bytes", region)
		says(t, slices.Concat(region, []string{""})[0])
	}
	for _, n := range []int{1, 3, 4, 40} {
		scan(t, "long texts", slices.Repeat([]string{strings.Repeat("LGD1", 100000)}, n))
	}
}

// R3, R4: a journal that was scanned stays as it was, and what was told has nothing to do with it.
func TestScanLeavesRegions(t *testing.T) {
	whole := append(writtenOf(9, 0, 1, count(3)).region(), "behind")
	was := slices.Clone(whole)
	_, one, _ := journal.Scan(whole[:9])
	_, other, _ := journal.Scan(whole[:9])
	blot(one)
	if !slices.Equal(whole, was) || !slices.Equal(other, count(3)) {
		t.Error("what Scan told lies in what was handed in, or in what it told as well")
	}
	for i := range whole {
		whole[i] = ""
	}
	if !slices.Equal(other, count(3)) {
		t.Errorf("what Scan told has become %s", short(other))
	}
	finds(t, "the same", was[:9], 1, count(3))
}
