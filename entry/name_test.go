package entry_test

import (
	"slices"
	"strings"
	"testing"

	"lockgate/entry"
)

// The chapter's examples of paths and zones.
func TestExamplesOfNames(t *testing.T) {
	if got, ok := entry.Split("/a/b.c"); !slices.Equal(got, []string{"a", "b.c"}) || !ok {
		t.Errorf("Split(/a/b.c): %q, %t", got, ok)
	}
	if got, ok := entry.Split("/"); len(got) > 0 || !ok {
		t.Errorf("Split(/): %q, %t", got, ok)
	}
	if got, ok := entry.Split("a"); len(got) > 0 || ok {
		t.Errorf("Split(a): %q, %t", got, ok)
	}
	if got := entry.Zone("a"); got != 1 {
		t.Errorf("Zone(a): %d", got)
	}
}

// is fails the test, if Name doesn't tell that.
func is(t *testing.T, what, s string, want bool) {
	t.Helper()
	if got := entry.Name(s); got != want {
		t.Errorf("Name, %s, of %d bytes %q: %t", what, len(s), s[:min(len(s), 40)], got)
	}
}

// P15.1: each byte alone, and with another one ahead or behind.
func TestNameOfEachByte(t *testing.T) {
	right := 0
	for x := range 256 {
		s := string([]byte{byte(x)})
		want := strings.Contains(alphabet, s)
		if want {
			right++
		}
		is(t, "a byte alone", s, want && s != ".")
		is(t, "a byte behind", "a"+s, want)
		is(t, "a byte ahead", s+"a", want)
	}
	if right != 65 {
		t.Fatalf("%d bytes stand in names", right)
	}
}

// P15.1: how many bytes a name has.
func TestNameLengths(t *testing.T) {
	is(t, "nothing", "", false)
	for _, letter := range strings.Split(alphabet, "") {
		for n := 1; n <= 40; n++ {
			want := n <= 30 && (letter != "." || n > 2)
			is(t, "of so many bytes", strings.Repeat(letter, n), want)
		}
		for _, n := range []int{60, 255, 256, 257, 286, 512, 65536, 65537, 65566, 1 << 20} {
			is(t, "of far too many bytes", strings.Repeat(letter, n), false)
		}
	}
}

// P15.1: neither . nor .. is a name, others with points are.
func TestNamePoints(t *testing.T) {
	is(t, "a point", ".", false)
	is(t, "two points", "..", false)
	for _, s := range []string{"...", "....", ".a", "a.", "..a", "a..", ".-", "_.", "-", "_", "--", "a.b", "0", "-.-", strings.Repeat(".", 30)} {
		is(t, "with points", s, true)
	}
	is(t, "too many points", strings.Repeat(".", 31), false)
}

// P15.1: a byte that no name has, at each place of names of each length.
func TestNameWithWrongByte(t *testing.T) {
	for n := 1; n <= 30; n++ {
		s := strings.Repeat("a0.Z-_", 5)[:n]
		is(t, "of all kinds", s, true)
		for i := range n {
			for _, x := range []byte{0, ' ', '/', ':', '@', '[', '`', '{', ',', '^', '\n', 127, 128, 195, 255} {
				is(t, "with a wrong byte", s[:i]+string([]byte{x})+s[i+1:], false)
			}
		}
	}
}

// P15.1: bytes that make one letter together are none of a name's, nor are such that make none.
func TestNameOfOtherLetters(t *testing.T) {
	for _, s := range []string{"\u00e4", "\u00e9", "\u00df", "\u017f", "\u212a", "\u0430", "\u0660", "\uff10", "\uff41", "\uff0e", "\u2010", "\u2026", "\u5b57", "\U0001d41a", "\ufffd", "\xff", "\xc3", "\xe4\xbd", "\xc0\xae", "\xc1\xa1", "a\u0301", "\u200b", "\ufeff"} {
		is(t, "of another letter", s, false)
		is(t, "with another letter behind", "a"+s, false)
		is(t, "with another letter ahead", s+"a", false)
		is(t, "with another letter between", "ab"+s+"cd", false)
	}
}

// P15.1: drawn texts, of bytes that names have and of few others.
func TestNameDrawn(t *testing.T) {
	d, right := draws(1), 0
	for range 20000 {
		b := make([]byte, d.below(33))
		for i := range b {
			if b[i] = alphabet[d.below(len(alphabet))]; d.below(40) == 0 {
				b[i] = byte(d.below(256))
			}
		}
		if isName(string(b)) {
			right++
		}
		is(t, "drawn", string(b), isName(string(b)))
	}
	if right < 2000 || right > 18000 {
		t.Errorf("%d were names", right)
	}
}

// splits fails the test, if Split doesn't tell what the chapter's words tell.
func splits(t *testing.T, what, path string) bool {
	t.Helper()
	want, wantOK := splitOf(path)
	if got, ok := entry.Split(path); !slices.Equal(got, want) || ok != wantOK {
		t.Errorf("Split, %s, of %q: %q, %t, not %q, %t", what, path[:min(len(path), 300)], got, ok, want, wantOK)
	}
	return wantOK
}

// splitsNone fails the test, if Split takes a text for a path.
func splitsNone(t *testing.T, what, path string) {
	t.Helper()
	if got, ok := entry.Split(path); len(got) > 0 || ok {
		t.Errorf("Split, %s, of %d bytes %q: %q, %t", what, len(path), path[:min(len(path), 300)], got, ok)
	}
}

// P15.1: the root, no text, and paths of one to eight names, and of more.
func TestSplitDepths(t *testing.T) {
	splitsNone(t, "no text", "")
	names := []string{"a", "b.c", "...", "D-1", "_", strings.Repeat("x", 30), "0", "a", "i", "j", "k", "l"}
	for n := 1; n <= len(names); n++ {
		path := "/" + strings.Join(names[:n], "/")
		got, ok := entry.Split(path)
		if n > 8 {
			splitsNone(t, "too many names", path)
		} else if !slices.Equal(got, names[:n]) || !ok {
			t.Errorf("Split(%s): %q, %t", path, got, ok)
		}
	}
	for _, n := range []int{8, 9, 10, 16, 255, 256, 264, 65536, 65544, 1 << 18} {
		if path := strings.Repeat("/a", n); splits(t, "of so many names", path) != (n == 8) {
			t.Errorf("a path of %d names", n)
		}
	}
}

// P15.1: a / that lacks, and one too many: ahead, between and behind.
func TestSplitSlashes(t *testing.T) {
	for _, path := range []string{"a", "a/b", "//", "///", "//a", "/a/", "/a//", "/a//b", "//a/b", "/a/b/", "/a/b//", "/a///b", "a/", " /a", "/ ", "\x00/a", "/\x00", "\\a", "/a\\b/", strings.Repeat("/", 1<<20), "/" + strings.Repeat("a", 1<<20)} {
		splitsNone(t, "with wrong slashes", path)
	}
	for n := 1; n <= 8; n++ {
		path := strings.Repeat("/a", n)
		splitsNone(t, "with one behind", path+"/")
		splitsNone(t, "with one ahead", "/"+path)
		splitsNone(t, "with none ahead", path[1:])
		for i := range n {
			splitsNone(t, "with one between", path[:2*i]+"/"+path[2*i:])
		}
	}
}

// P15.1: names that aren't ones, at each place of a path.
func TestSplitWrongNames(t *testing.T) {
	for n := 1; n <= 8; n++ {
		for i := range n {
			for _, s := range []string{"", ".", "..", strings.Repeat("x", 31), "a b", "\u00e4", "\xff", "a\x00", "a:", "*"} {
				names := slices.Repeat([]string{"ab"}, n)
				names[i] = s
				if path := "/" + strings.Join(names, "/"); path != "/" {
					splitsNone(t, "with a wrong name", path)
				}
			}
			for _, s := range []string{"...", strings.Repeat("x", 30), "-", "_", "." + "a"} {
				names := slices.Repeat([]string{"ab"}, n)
				names[i] = s
				if !splits(t, "with right names", "/"+strings.Join(names, "/")) {
					t.Errorf("%q is no name", s)
				}
			}
		}
	}
}

// P15.1: all short texts of these bytes, and drawn ones.
func TestSplitOfAll(t *testing.T) {
	texts, right := []string{""}, 0
	for range 7 {
		var longer []string
		for _, s := range texts {
			splits(t, "short", s)
			for _, x := range []string{"/", "a", ".", "~"} {
				longer = append(longer, s+x)
			}
		}
		texts = longer
	}
	d := draws(2)
	for range 20000 {
		path := ""
		for range d.below(10) {
			path += "/" + d.name()
			if d.below(30) == 0 {
				path += []string{"/", ".", "..", " ", "x", "/../"}[d.below(6)]
			}
		}
		if splits(t, "drawn", path) {
			right++
		}
	}
	if right < 5000 {
		t.Errorf("just %d were paths", right)
	}
}

// P15.1: the sum of a name's bytes modulo 4: of no text, of each byte, of pairs, and of long texts, also such that are no names.
func TestZone(t *testing.T) {
	zone := func(s string, want int) {
		t.Helper()
		if got := entry.Zone(s); got != want {
			t.Errorf("Zone of %d bytes %q: %d, not %d", len(s), s[:min(len(s), 40)], got, want)
		}
	}
	zone("", 0)
	for x := range 256 {
		zone(string([]byte{byte(x)}), x%4)
		for y := range 256 {
			zone(string([]byte{byte(x), byte(y)}), (x+y)%4)
		}
	}
	for _, n := range []int{3, 4, 5, 30, 31, 255, 256, 1000, 1 << 20} {
		zone(strings.Repeat("\xff", n), 255*n%4)
		zone(strings.Repeat("a", n), 97*n%4)
		zone(strings.Repeat("\u00e4", n), (0xc3+0xa4)*n%4)
	}
	for s, want := range map[string]int{"b": 2, "c": 3, "d": 0, "ab": 3, "ba": 3, "abc": 2, "A": 1, ".": 2, "..": 0, "a.txt": 3, "/": 3, "\u00e4": 3, "\u5b57": 1} {
		zone(s, want)
	}
}
