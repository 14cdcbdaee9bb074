package entry_test

import (
	"encoding/binary"
	"fmt"
	"math"
	"regexp"
	"slices"
	"strings"

	"lockgate/api"
)

// The chapter's words once more, as patterns.
var (
	namePattern = regexp.MustCompile(`^[a-zA-Z0-9._-]{1,30}\z`)
	pathPattern = regexp.MustCompile(`^(/[a-zA-Z0-9._-]{1,30}){1,8}\z`)
)

// isName tells whether s is a name.
func isName(s string) bool { return namePattern.MatchString(s) && s != "." && s != ".." }

// splitOf are a path's names.
func splitOf(path string) ([]string, bool) {
	if path == "/" {
		return nil, true
	}
	if !pathPattern.MatchString(path) {
		return nil, false
	}
	names := strings.Split(path, "/")[1:]
	if slices.Contains(names, ".") || slices.Contains(names, "..") {
		return nil, false
	}
	return names, true
}

// alphabet are all bytes that names have.
const alphabet = "abcdefghijklmnopqrstuvwxyzABCDEFGHIJKLMNOPQRSTUVWXYZ0123456789.-_"

// far are numbers that no sector has.
var far = []int{65536, 65537, 1 << 31, 1 << 32, 1<<32 + 7, 1 << 40, math.MaxInt, -1, -2, -65536, -1 << 32, math.MinInt}

// isList tells whether l is a folder's list.
func isList(l []api.Entry) bool {
	for i, e := range l {
		if !isName(e.Name) || e.Sector < 0 || e.Sector > 65535 || i > 0 && strings.Compare(l[i-1].Name, e.Name) >= 0 {
			return false
		}
	}
	return true
}

// written are a list's bytes, also of one that is no folder's.
func written(l []api.Entry) string {
	var b []byte
	for _, e := range l {
		b = append(binary.BigEndian.AppendUint16(b, uint16(len(e.Name))), e.Name...)
		b = binary.BigEndian.AppendUint32(b, uint32(e.Sector))
	}
	return string(b)
}

// readAs is whose list these bytes are.
func readAs(s string) ([]api.Entry, bool) {
	var l []api.Entry
	for len(s) > 0 {
		if len(s) < 2 {
			return nil, false
		}
		n := int(s[0])<<8 | int(s[1])
		if len(s) < n+6 {
			return nil, false
		}
		l = append(l, api.Entry{Name: s[2 : 2+n], Sector: int(binary.BigEndian.Uint32([]byte(s[2+n:])))})
		s = s[n+6:]
	}
	return l, isList(l)
}

// named are entries of these names, in their order, with sectors of their own.
func named(names ...string) []api.Entry {
	var l []api.Entry
	for i, name := range names {
		l = append(l, api.Entry{Name: name, Sector: 100 + i})
	}
	return l
}

// many are n entries that are a folder's list.
func many(n int) []api.Entry {
	var l []api.Entry
	for i := range n {
		l = append(l, api.Entry{Name: fmt.Sprintf("n%06d", i), Sector: i % 65536})
	}
	return l
}

// draws are numbers that look like chance, the same at each run.
type draws uint64

func (d *draws) next() uint32 {
	*d = *d*6364136223846793005 + 1442695040888963407
	return uint32(*d >> 32)
}

func (d *draws) below(n int) int { return int(d.next()>>1) % n }

// name is a drawn one: short, so that it is drawn again, or any.
func (d *draws) name() string {
	for {
		n := []int{1 + d.below(2), 1 + d.below(30), 30}[d.below(3)]
		letters := []string{"ab", "a.B-", alphabet}[d.below(3)]
		b := make([]byte, n)
		for i := range b {
			b[i] = letters[d.below(len(letters))]
		}
		if isName(string(b)) {
			return string(b)
		}
	}
}

// list is a drawn folder's.
func (d *draws) list(n int) []api.Entry {
	sectors := map[string]int{}
	for len(sectors) < n {
		sectors[d.name()] = []int{d.below(65536), 0, 65535}[d.below(3)]
	}
	var l []api.Entry
	for name, sector := range sectors {
		l = append(l, api.Entry{Name: name, Sector: sector})
	}
	slices.SortFunc(l, func(a, b api.Entry) int { return strings.Compare(a.Name, b.Name) })
	return l
}
