package disk_test

import (
	"fmt"
	"math"
	"slices"
	"sort"
	"strings"
	"testing"

	"lockgate/api"
	"lockgate/disk"
)

// draws are numbers that look like chance, the same at each run.
type draws uint64

func (d *draws) below(n int) int {
	*d = *d*6364136223846793005 + 1442695040888963407
	return int(uint64(*d) >> 33 % uint64(n))
}

// bytesOf is a sector whose bytes are all x.
func bytesOf(x byte) string { return strings.Repeat(string([]byte{x}), 512) }

var blank = bytesOf(0)

// row is a write that is in a cache.
type row struct {
	key, sector int
	s           string
}

// model is a disk as the chapter words it, kept in another way: the writes of all keys stand in one list.
type model struct {
	sectors           int
	lies              map[int]string
	ever, in, pending []int
	rows              []row
}

func newModel(sectors int) *model {
	return &model{sectors: sectors, lies: map[int]string{}}
}

func (m *model) peek(sector int) string {
	if sector < 0 || sector >= m.sectors {
		return ""
	}
	if s, ok := m.lies[sector]; ok {
		return s
	}
	return blank
}

// refused is what all commands tell first.
func (m *model) refused(key, sector int, texts ...string) api.Errno {
	if sector < 0 || sector >= m.sectors {
		return api.ErrArg
	}
	for _, s := range texts {
		if len(s) != 512 {
			return api.ErrArg
		}
	}
	if !slices.Contains(m.in, key) {
		return api.ErrFenced
	}
	return api.OK
}

func (m *model) register(key int) api.Errno {
	if key < 1 {
		return api.ErrArg
	}
	if slices.Contains(m.ever, key) {
		return api.ErrState
	}
	m.ever, m.in = append(m.ever, key), append(m.in, key)
	return api.OK
}

// own are the texts of the key's writes for that sector.
func (m *model) own(key, sector int) []string {
	var l []string
	for _, r := range m.rows {
		if r.key == key && r.sector == sector {
			l = append(l, r.s)
		}
	}
	return l
}

func (m *model) read(key, sector int) (string, api.Errno) {
	if e := m.refused(key, sector); e != api.OK {
		return "", e
	}
	if l := m.own(key, sector); len(l) > 0 {
		return l[len(l)-1], api.OK
	}
	return m.peek(sector), api.OK
}

func (m *model) write(key, sector int, s string) api.Errno {
	if e := m.refused(key, sector, s); e != api.OK {
		return e
	}
	m.rows = append(m.rows, row{key, sector, s})
	return api.OK
}

func (m *model) cached(key int) int {
	n := 0
	for _, r := range m.rows {
		if r.key == key {
			n++
		}
	}
	return n
}

// settle is the chapter's word, of one key.
func (m *model) settle(key int, picks []int) {
	var others []row
	n := 0
	for _, r := range m.rows {
		if r.key != key {
			others = append(others, r)
			continue
		}
		if n < len(picks) && picks[n]&1 == 1 {
			m.lies[r.sector] = r.s
		}
		n++
	}
	m.rows = others
}

func (m *model) flush(key int) api.Errno {
	if e := m.refused(key, 0); e != api.OK {
		return e
	}
	m.settle(key, slices.Repeat([]int{1}, m.cached(key)))
	return api.OK
}

func (m *model) swap(key, sector int, old, now string) api.Errno {
	if e := m.refused(key, sector, old, now); e != api.OK {
		return e
	}
	if len(m.own(key, sector)) > 0 {
		return api.ErrState
	}
	if m.peek(sector) != old {
		return api.ErrSwap
	}
	m.lies[sector] = now
	return api.OK
}

func (m *model) fence(key, target int) api.Errno {
	if target < 1 {
		return api.ErrArg
	}
	if !slices.Contains(m.in, key) {
		return api.ErrFenced
	}
	if slices.Contains(m.in, target) && !slices.Contains(m.pending, target) {
		m.pending = append(m.pending, target)
	}
	return api.OK
}

func (m *model) takes(picks []int) int {
	if len(m.pending) == 0 {
		return 0
	}
	key := m.pending[0]
	m.pending = slices.Delete(m.pending, 0, 1)
	m.in = slices.DeleteFunc(m.in, func(k int) bool { return k == key })
	m.settle(key, picks)
	return key
}

func (m *model) power(picks []int) {
	keys := slices.Clone(m.ever)
	sort.Ints(keys)
	for _, key := range keys {
		n := min(m.cached(key), len(picks))
		m.settle(key, picks[:n])
		picks = picks[n:]
	}
	m.pending = nil
}

// same holds all that there is to see of a disk against the model.
func same(t *testing.T, what string, d *disk.Disk, m *model, keys []int) {
	t.Helper()
	if got := d.Sectors(); got != m.sectors {
		t.Fatalf("%s: Sectors %d, want %d", what, got, m.sectors)
	}
	if got := d.Pending(); !slices.Equal(got, m.pending) {
		t.Fatalf("%s: Pending %v, want %v", what, got, m.pending)
	}
	for sector := -1; sector <= m.sectors; sector++ {
		if got, want := d.Peek(sector), m.peek(sector); got != want {
			t.Fatalf("%s: Peek(%d): %.8x, want %.8x", what, sector, got, want)
		}
	}
	for _, key := range keys {
		if got, want := d.Registered(key), slices.Contains(m.in, key); got != want {
			t.Fatalf("%s: Registered(%d): %v", what, key, got)
		}
		if got, want := d.Cached(key), m.cached(key); got != want {
			t.Fatalf("%s: Cached(%d): %d, want %d", what, key, got, want)
		}
		for sector := -1; sector <= m.sectors; sector++ {
			got, e := d.Read(key, sector)
			if want, f := m.read(key, sector); got != want || e != f {
				t.Fatalf("%s: Read(%d, %d): %.8x, %d, want %.8x, %d", what, key, sector, got, e, want, f)
			}
		}
	}
}

// errs holds an error against the one that is asked for.
func errs(t *testing.T, what string, got, want api.Errno) {
	t.Helper()
	if got != want {
		t.Errorf("%s: %d, want %d", what, got, want)
	}
}

// lies holds what lies in a sector against what is asked for.
func lies(t *testing.T, what string, d *disk.Disk, sector int, want string) {
	t.Helper()
	if got := d.Peek(sector); got != want {
		t.Errorf("%s: in sector %d lies %.4x.., want %.4x..", what, sector, got, want)
	}
}

// made is a disk with these keys.
func made(sectors int, keys ...int) *disk.Disk {
	d := disk.New(sectors)
	for _, key := range keys {
		d.Register(key)
	}
	return d
}

var (
	x = bytesOf('x')
	y = bytesOf('y')
	z = bytesOf('z')
)

// P4.1 to P4.3: the chapter's examples.
func TestExamples(t *testing.T) {
	d := disk.New(8)
	errs(t, "Register", d.Register(1), api.OK)
	errs(t, "Write", d.Write(1, 0, x), api.OK)
	lies(t, "written", d, 0, blank)
	errs(t, "Flush", d.Flush(1), api.OK)
	lies(t, "flushed", d, 0, x)
	errs(t, "Register of another", d.Register(2), api.OK)
	errs(t, "Fence", d.Fence(2, 1), api.OK)
	errs(t, "Write, fence pending", d.Write(1, 0, y), api.OK)
	if got := d.Takes(); got != 1 {
		t.Errorf("Takes: %d", got)
	}
	errs(t, "Write, fenced", d.Write(1, 0, z), api.ErrFenced)
	lies(t, "fenced", d, 0, x)
}

// The whole's second example: a write that was not flushed, and a fence: it lies there only if the script picks it.
func TestUnflushedAndFence(t *testing.T) {
	for _, c := range []struct {
		picks []int
		want  string
	}{{nil, blank}, {[]int{0}, blank}, {[]int{1}, x}, {[]int{2}, blank}, {[]int{0, 1}, blank}, {[]int{-1}, x}} {
		d := made(3, 1, 2)
		d.Write(1, 2, x)
		d.Fence(2, 1)
		lies(t, "pending", d, 2, blank)
		d.Takes(c.picks...)
		lies(t, fmt.Sprint("picks ", c.picks), d, 2, c.want)
	}
}

// P4.1: how many sectors there are; bytes 0 lie in each; there are no keys.
func TestNew(t *testing.T) {
	for _, c := range [][2]int{
		{math.MinInt, 1}, {-65536, 1}, {-1, 1}, {0, 1}, {1, 1}, {2, 2}, {511, 511}, {512, 512},
		{65535, 65535}, {65536, 65536}, {65537, 65536}, {1 << 20, 65536}, {math.MaxInt32, 65536}, {math.MaxInt, 65536},
	} {
		d := disk.New(c[0])
		if got := d.Sectors(); got != c[1] {
			t.Errorf("New(%d): %d sectors, want %d", c[0], got, c[1])
		}
		for sector := range c[1] {
			if d.Peek(sector) != blank {
				t.Fatalf("New(%d): in sector %d lies %.4x..", c[0], sector, d.Peek(sector))
			}
		}
		if before, behind := d.Peek(-1), d.Peek(c[1]); before != "" || behind != "" {
			t.Errorf("New(%d): outside lies %.4x.., %.4x..", c[0], before, behind)
		}
		for _, key := range someKeys() {
			if d.Registered(key) || d.Cached(key) != 0 {
				t.Errorf("New(%d): Registered(%d): %v, Cached %d", c[0], key, d.Registered(key), d.Cached(key))
			}
		}
		if l := d.Pending(); len(l) != 0 || d.Takes(1) != 0 {
			t.Errorf("New(%d): Pending %v", c[0], l)
		}
	}
}

// someKeys are keys that may be, and such as may not.
func someKeys() []int {
	return []int{math.MinInt, math.MinInt32, -65536, -2, -1, 0, 1, 2, 3, 7, 8, 9, 20, 65536, math.MaxInt32, math.MaxInt - 1, math.MaxInt}
}

// P4.1: a key is registered once, ever.
func TestRegister(t *testing.T) {
	d := disk.New(2)
	for i, key := range someKeys() {
		if key < 1 {
			errs(t, fmt.Sprint("Register ", key), d.Register(key), api.ErrArg)
			errs(t, fmt.Sprint("Register again ", key), d.Register(key), api.ErrArg)
			if d.Registered(key) {
				t.Errorf("Registered(%d)", key)
			}
			continue
		}
		errs(t, fmt.Sprint("Register ", key), d.Register(key), api.OK)
		errs(t, fmt.Sprint("Register again ", key), d.Register(key), api.ErrState)
		for j, other := range someKeys() {
			if got, want := d.Registered(other), other >= 1 && j <= i; got != want {
				t.Errorf("Registered(%d) behind %d: %v", other, key, got)
			}
		}
	}
}

// P4.1: one that was fenced is registered no more, and never again; one whose fence is pending, or was forgotten, is registered still.
func TestRegisterFenced(t *testing.T) {
	d := made(2, 1, 2, 3)
	d.Fence(3, 1)
	errs(t, "pending", d.Register(1), api.ErrState)
	if !d.Registered(1) {
		t.Error("pending: not registered")
	}
	d.Takes()
	errs(t, "fenced", d.Register(1), api.ErrState)
	if d.Registered(1) || !d.Registered(2) || !d.Registered(3) {
		t.Errorf("fenced: %v %v %v", d.Registered(1), d.Registered(2), d.Registered(3))
	}
	d.Power()
	errs(t, "fenced, behind power", d.Register(1), api.ErrState)
	if d.Registered(1) || !d.Registered(2) {
		t.Errorf("behind power: %v %v", d.Registered(1), d.Registered(2))
	}
	d.Fence(3, 2)
	d.Power()
	errs(t, "forgotten", d.Register(2), api.ErrState)
	if !d.Registered(2) {
		t.Error("forgotten: not registered")
	}
	errs(t, "fenced: its own fence", d.Fence(1, 1), api.ErrFenced)
	errs(t, "a new key", d.Register(4), api.OK)
}

// commands are all that a key may ask for of a sector, with bytes that are handed in.
func commands(d *disk.Disk, key, sector int, s string) map[string]api.Errno {
	_, read := d.Read(key, sector)
	return map[string]api.Errno{
		"Read":     read,
		"Write":    d.Write(key, sector, s),
		"Swap old": d.Swap(key, sector, s, x),
		"Swap now": d.Swap(key, sector, x, s),
	}
}

// P4.2: ErrArg stands ahead of all else, and nothing changes.
func TestCommandsErrArg(t *testing.T) {
	d := made(4, 1, 2, 3)
	d.Write(1, 3, y)
	d.Fence(2, 3)
	d.Takes()
	for _, key := range []int{1, 2, 3, 9, 0, -1} {
		for _, sector := range []int{math.MinInt, -65536, -512, -4, -1, 4, 5, 8, 65535, 65536, math.MaxInt} {
			for what, e := range commands(d, key, sector, x) {
				errs(t, fmt.Sprintf("%s(%d, %d)", what, key, sector), e, api.ErrArg)
			}
		}
		for _, s := range []string{"", "x", x[:1], x[:511], x + "x", x[:256], x + x, blank + "\x00", blank[:511]} {
			for _, sector := range []int{0, 3} {
				for what, e := range commands(d, key, sector, s) {
					if what != "Read" {
						errs(t, fmt.Sprintf("%s(%d, %d, %d bytes)", what, key, sector, len(s)), e, api.ErrArg)
					}
				}
			}
		}
	}
	if d.Cached(1) != 1 || d.Cached(2) != 0 || d.Peek(0) != blank || d.Peek(3) != blank {
		t.Errorf("changed: %d, %d writes; %.4x.., %.4x..", d.Cached(1), d.Cached(2), d.Peek(0), d.Peek(3))
	}
}

// P4.2: ErrFenced of keys that are not registered stands behind ErrArg, and ahead of ErrSwap.
func TestCommandsErrFenced(t *testing.T) {
	d := made(4, 1, 2)
	d.Fence(2, 1)
	d.Takes()
	for _, key := range []int{1, 3, 0, -1, math.MinInt, math.MaxInt} {
		for _, sector := range []int{0, 3} {
			for what, e := range commands(d, key, sector, blank) {
				errs(t, fmt.Sprintf("%s(%d, %d)", what, key, sector), e, api.ErrFenced)
			}
			if s, _ := d.Read(key, sector); s != "" {
				t.Errorf("Read(%d, %d) tells bytes beside its error", key, sector)
			}
			lies(t, "behind commands", d, sector, blank)
		}
		errs(t, fmt.Sprint("Flush ", key), d.Flush(key), api.ErrFenced)
		errs(t, fmt.Sprint("Fence by ", key), d.Fence(key, 2), api.ErrFenced)
		if d.Cached(key) != 0 || len(d.Pending()) != 0 {
			t.Errorf("key %d has %d writes, pending: %v", key, d.Cached(key), d.Pending())
		}
	}
}

// P4.2 and P4.5: what one has in its cache nobody else sees, and it sees its last write for each sector.
func TestReadOwn(t *testing.T) {
	d := made(3, 1, 2)
	d.Write(1, 0, x)
	d.Write(1, 2, y)
	d.Write(1, 0, z)
	d.Write(2, 0, y)
	for _, c := range []struct {
		key, sector int
		want        string
	}{{1, 0, z}, {1, 1, blank}, {1, 2, y}, {2, 0, y}, {2, 1, blank}, {2, 2, blank}} {
		if got, e := d.Read(c.key, c.sector); got != c.want || e != api.OK {
			t.Errorf("Read(%d, %d): %.4x.., %d", c.key, c.sector, got, e)
		}
	}
	for sector := range 3 {
		lies(t, "not flushed", d, sector, blank)
	}
	if d.Cached(1) != 3 || d.Cached(2) != 1 {
		t.Errorf("Cached: %d, %d", d.Cached(1), d.Cached(2))
	}
}

// P4.2: a flush brings the key's own writes home, one behind the other, and leaves none in its cache.
func TestFlush(t *testing.T) {
	d := made(3, 1, 2)
	d.Write(1, 0, x)
	d.Write(1, 1, x)
	d.Write(1, 0, y)
	d.Write(2, 0, z)
	d.Write(2, 2, z)
	errs(t, "Flush", d.Flush(1), api.OK)
	lies(t, "flushed", d, 0, y)
	lies(t, "flushed", d, 1, x)
	lies(t, "not flushed", d, 2, blank)
	if d.Cached(1) != 0 || d.Cached(2) != 2 {
		t.Errorf("Cached: %d, %d", d.Cached(1), d.Cached(2))
	}
	errs(t, "Flush of nothing", d.Flush(1), api.OK)
	lies(t, "flushed again", d, 0, y)
	errs(t, "Flush of the other", d.Flush(2), api.OK)
	lies(t, "the last flush", d, 0, z)
	lies(t, "the last flush", d, 2, z)
	if s, _ := d.Read(1, 0); s != z {
		t.Errorf("Read: %.4x..", s)
	}
}

// P4.2: a swap is done at once, for all to see, and just if old lies there.
func TestSwap(t *testing.T) {
	d := made(3, 1, 2)
	errs(t, "Swap", d.Swap(1, 2, blank, x), api.OK)
	lies(t, "swapped", d, 2, x)
	if s, _ := d.Read(2, 2); s != x || d.Cached(1) != 0 {
		t.Errorf("swapped: the other reads %.4x.., %d writes", s, d.Cached(1))
	}
	errs(t, "Swap of what lay there", d.Swap(2, 2, blank, y), api.ErrSwap)
	errs(t, "Swap of almost that", d.Swap(2, 2, x[:511]+"y", y), api.ErrSwap)
	errs(t, "Swap of almost that", d.Swap(2, 2, "y"+x[:511], y), api.ErrSwap)
	lies(t, "not swapped", d, 2, x)
	errs(t, "Swap for the same", d.Swap(2, 2, x, x), api.OK)
	lies(t, "swapped for the same", d, 2, x)
	errs(t, "Swap", d.Swap(2, 2, x, y), api.OK)
	lies(t, "swapped again", d, 2, y)
	lies(t, "beside", d, 1, blank)
}

// P4.2: a write of one's own for that sector stands against a swap, whatever lies there; those of others, and for others, don't.
func TestSwapBehindWrite(t *testing.T) {
	d := made(3, 1, 2)
	d.Write(1, 0, x)
	d.Write(1, 1, x)
	errs(t, "old lies there", d.Swap(1, 0, blank, y), api.ErrState)
	errs(t, "old doesn't lie there", d.Swap(1, 0, z, y), api.ErrState)
	errs(t, "old is in the cache", d.Swap(1, 0, x, y), api.ErrState)
	lies(t, "not swapped", d, 0, blank)
	errs(t, "another sector", d.Swap(1, 2, blank, y), api.OK)
	errs(t, "another key, of what lies there not", d.Swap(2, 0, x, y), api.ErrSwap)
	errs(t, "another key", d.Swap(2, 0, blank, y), api.OK)
	lies(t, "swapped by another key", d, 0, y)
	if s, _ := d.Read(1, 0); s != x {
		t.Errorf("Read behind another's swap: %.4x..", s)
	}
	d.Flush(1)
	lies(t, "flushed over it", d, 0, x)
	errs(t, "behind a flush", d.Swap(1, 0, x, z), api.OK)
	d.Write(1, 0, x)
	d.Drop(1)
	errs(t, "behind a drop", d.Swap(1, 0, z, x), api.OK)
	lies(t, "behind a drop", d, 0, x)
}

// P4.3: what is pending, in what order; ErrArg ahead of ErrFenced.
func TestFence(t *testing.T) {
	d := made(2, 1, 2, 3, 4)
	for _, key := range []int{1, 9, 0, -1} {
		for _, target := range []int{0, -1, math.MinInt} {
			errs(t, fmt.Sprintf("Fence(%d, %d)", key, target), d.Fence(key, target), api.ErrArg)
		}
	}
	errs(t, "never registered", d.Fence(1, 9), api.OK)
	errs(t, "never registered", d.Fence(1, math.MaxInt), api.OK)
	if l := d.Pending(); len(l) != 0 {
		t.Errorf("pending: %v", l)
	}
	for _, target := range []int{3, 1, 3, 2, 1} {
		errs(t, "Fence", d.Fence(2, target), api.OK)
	}
	errs(t, "by another one", d.Fence(4, 3), api.OK)
	if l := d.Pending(); !slices.Equal(l, []int{3, 1, 2}) {
		t.Errorf("pending: %v", l)
	}
	for i, want := range []int{3, 1} {
		if got := d.Takes(); got != want || !slices.Equal(d.Pending(), []int{3, 1, 2}[i+1:]) {
			t.Errorf("Takes: %d, want %d; then %v", got, want, d.Pending())
		}
	}
	errs(t, "fenced already", d.Fence(2, 3), api.OK)
	errs(t, "behind those pending", d.Fence(2, 4), api.OK)
	if l := d.Pending(); !slices.Equal(l, []int{2, 4}) {
		t.Errorf("pending: %v", l)
	}
	if a, b, c := d.Takes(), d.Takes(), d.Takes(); a != 2 || b != 4 || c != 0 {
		t.Errorf("Takes: %d, %d, %d", a, b, c)
	}
	for key := 1; key <= 4; key++ {
		if d.Registered(key) {
			t.Errorf("key %d is registered", key)
		}
	}
}

// P4.3: a fence that is pending takes effect, though the key that asked for it is fenced ahead; till then all is as it was.
func TestFenceEachOther(t *testing.T) {
	d := made(2, 1, 2)
	errs(t, "Fence", d.Fence(1, 2), api.OK)
	errs(t, "by one whose fence is pending", d.Fence(2, 1), api.OK)
	errs(t, "Write, pending", d.Write(2, 0, x), api.OK)
	errs(t, "Flush, pending", d.Flush(2), api.OK)
	errs(t, "Swap, pending", d.Swap(2, 0, x, y), api.OK)
	if s, e := d.Read(2, 0); s != y || e != api.OK {
		t.Errorf("Read, pending: %.4x.., %d", s, e)
	}
	if a, b := d.Takes(), d.Takes(); a != 2 || b != 1 {
		t.Errorf("Takes: %d, %d", a, b)
	}
	errs(t, "itself", made(1, 5).Fence(5, 5), api.OK)
}

// P4.3: with no fence pending nothing is settled, whatever is picked.
func TestTakesNone(t *testing.T) {
	d := made(2, 1)
	d.Write(1, 0, x)
	if got := d.Takes(1, 1, 1); got != 0 || d.Cached(1) != 1 || !d.Registered(1) {
		t.Errorf("Takes: %d, %d writes, registered: %v", got, d.Cached(1), d.Registered(1))
	}
	lies(t, "behind Takes", d, 0, blank)
}

// picked are rows of picks for three writes, and which of these lie there behind them.
func picked() []struct {
	picks []int
	lie   [3]bool
} {
	return []struct {
		picks []int
		lie   [3]bool
	}{
		{nil, [3]bool{}}, {[]int{}, [3]bool{}},
		{[]int{1}, [3]bool{true}}, {[]int{0, 1}, [3]bool{false, true}}, {[]int{0, 0, 1}, [3]bool{false, false, true}},
		{[]int{1, 1, 1}, [3]bool{true, true, true}}, {[]int{1, 0, 1}, [3]bool{true, false, true}},
		{[]int{0, 0, 0, 1, 1}, [3]bool{}}, {[]int{1, 1, 1, 1, 1}, [3]bool{true, true, true}},
		{[]int{2, 3, 4}, [3]bool{false, true}}, {[]int{-1, -2, -3}, [3]bool{true, false, true}},
		{[]int{math.MaxInt, math.MinInt, math.MinInt + 1}, [3]bool{true, false, true}},
		{[]int{256, 257, 65536}, [3]bool{false, true}},
	}
}

// P4.3 and P4.4: a cache is settled alike by a fence, a fault, and power.
func TestPicks(t *testing.T) {
	ends := []func(d *disk.Disk, picks []int){
		func(d *disk.Disk, picks []int) { d.Fence(2, 1); d.Takes(picks...) },
		func(d *disk.Disk, picks []int) { d.Drop(1, picks...) },
		func(d *disk.Disk, picks []int) { d.Power(picks...) },
	}
	for _, c := range picked() {
		for i, end := range ends {
			d := made(5, 1, 2)
			for sector := range 3 {
				d.Write(1, sector, x)
			}
			picks := slices.Clone(c.picks)
			end(d, picks)
			for sector, lie := range c.lie {
				want := blank
				if lie {
					want = x
				}
				lies(t, fmt.Sprint("picks ", c.picks), d, sector, want)
			}
			if d.Cached(1) != 0 {
				t.Errorf("picks %v: %d writes are left", c.picks, d.Cached(1))
			}
			if got, want := d.Registered(1), i != 0; got != want {
				t.Errorf("picks %v, end %d: Registered: %v", c.picks, i, got)
			}
			if !slices.Equal(picks, c.picks) {
				t.Errorf("picks %v are %v now", c.picks, picks)
			}
		}
	}
}

// P4.4: writes of one sector are settled one behind the other, each by a pick of its own.
func TestPicksOfOneSector(t *testing.T) {
	for picks, want := range []string{blank, x, y, y, z, z, z, z} {
		d := made(2, 1)
		d.Swap(1, 1, blank, x)
		for _, s := range []string{x, y, z} {
			d.Write(1, 0, s)
		}
		d.Drop(1, picks, picks>>1, picks>>2)
		lies(t, fmt.Sprintf("picks %03b", picks), d, 0, want)
		lies(t, fmt.Sprintf("picks %03b", picks), d, 1, x)
	}
}

// P4.4: a fault settles the cache of that key alone; fences stay pending, and the key may go on.
func TestDrop(t *testing.T) {
	d := made(3, 1, 2)
	d.Write(1, 0, x)
	d.Write(2, 1, x)
	d.Fence(2, 1)
	for _, key := range []int{9, 0, -1, math.MinInt, math.MaxInt} {
		d.Drop(key, 1, 1, 1)
	}
	if d.Cached(1) != 1 || d.Cached(2) != 1 {
		t.Errorf("Drop of keys that there aren't: %d, %d writes", d.Cached(1), d.Cached(2))
	}
	d.Drop(1, 1)
	if d.Cached(1) != 0 || d.Cached(2) != 1 || !slices.Equal(d.Pending(), []int{1}) || !d.Registered(1) {
		t.Errorf("Drop: %d, %d writes, pending %v", d.Cached(1), d.Cached(2), d.Pending())
	}
	lies(t, "dropped", d, 0, x)
	lies(t, "another's", d, 1, blank)
	errs(t, "Write behind a drop", d.Write(1, 2, y), api.OK)
	d.Drop(1)
	lies(t, "dropped", d, 2, blank)
	if s, e := d.Read(1, 2); s != blank || e != api.OK {
		t.Errorf("Read behind a drop: %.4x.., %d", s, e)
	}
}

// P4.4: power settles all caches, by rising keys, each with as many picks as it has writes; nothing is pending, all keys stay.
func TestPower(t *testing.T) {
	d := made(8, 20, 3, 100, 7, 1)
	d.Write(100, 5, x)
	d.Write(3, 0, x)
	d.Write(20, 3, x)
	d.Write(7, 2, x)
	d.Write(3, 1, x)
	d.Write(20, 4, x)
	d.Fence(1, 7)
	d.Fence(1, 3)
	d.Power(1, 0, 1, 0, 1)
	for sector, want := range []string{x, blank, x, blank, x, blank, blank} {
		lies(t, "power", d, sector, want)
	}
	if l := d.Pending(); len(l) != 0 || d.Takes() != 0 {
		t.Errorf("pending: %v", l)
	}
	for _, key := range []int{1, 3, 7, 20, 100} {
		if d.Cached(key) != 0 || !d.Registered(key) {
			t.Errorf("key %d: %d writes, registered: %v", key, d.Cached(key), d.Registered(key))
		}
	}
	errs(t, "Fence behind power", d.Fence(1, 7), api.OK)
	if got := d.Takes(); got != 7 {
		t.Errorf("Takes behind power: %d", got)
	}
}

// P4.4: of two keys that write one sector the greater one's write is settled behind the other's, whoever wrote first.
func TestPowerOneSector(t *testing.T) {
	for _, first := range []int{2, 11} {
		d := made(2, 11, 2)
		d.Write(first, 0, bytesOf(byte(first)))
		d.Write(13-first, 0, bytesOf(byte(13-first)))
		d.Power(1, 1, 0)
		lies(t, "both picked", d, 0, bytesOf(11))
	}
	d := disk.New(2)
	for key := 300; key > 0; key-- {
		d.Register(key)
		d.Write(key, 0, bytesOf(byte(key)))
	}
	d.Power(append(slices.Repeat([]int{1}, 200), 0)...)
	lies(t, "of 300 keys 200 picked", d, 0, bytesOf(200))
}

// P4.5: once its fence took effect, no command of a key changes what lies anywhere.
func TestFencedChangesNothing(t *testing.T) {
	d := made(3, 1, 2)
	d.Write(1, 0, x)
	d.Flush(1)
	d.Write(1, 1, x)
	d.Fence(2, 1)
	d.Write(1, 2, x)
	d.Takes(0, 1)
	for range 3 {
		commands(d, 1, 0, y)
		d.Write(1, 1, y)
		d.Swap(1, 1, blank, y)
		d.Flush(1)
		d.Register(1)
		d.Fence(1, 2)
		d.Drop(1, 1, 1, 1)
		d.Power(1, 1, 1)
		for sector, want := range []string{x, blank, x} {
			lies(t, "fenced", d, sector, want)
		}
		if d.Cached(1) != 0 || d.Registered(1) || len(d.Pending()) != 0 {
			t.Errorf("fenced: %d writes, registered: %v, pending: %v", d.Cached(1), d.Registered(1), d.Pending())
		}
	}
}

// P4.5: what was flushed lies there till another write, or swap, of that sector, whatever befalls.
func TestFlushedStays(t *testing.T) {
	d := made(3, 1, 2, 3)
	d.Write(1, 0, x)
	d.Flush(1)
	d.Write(2, 1, y)
	d.Drop(1, 1, 1)
	d.Fence(2, 1)
	d.Takes(1, 1)
	d.Power(0)
	d.Drop(2)
	d.Flush(3)
	lies(t, "flushed", d, 0, x)
	if s, e := d.Read(2, 0); s != x || e != api.OK {
		t.Errorf("Read: %.4x.., %d", s, e)
	}
	errs(t, "Swap", d.Swap(3, 0, x, z), api.OK)
	lies(t, "swapped", d, 0, z)
}

// R1: a nil disk tells 0, false, nothing, ErrArg, and nothing befalls it.
func TestNil(t *testing.T) {
	var d *disk.Disk
	for _, key := range []int{1, 0, -1} {
		for what, e := range commands(d, key, 0, x) {
			errs(t, what, e, api.ErrArg)
		}
		if s, _ := d.Read(key, 0); s != "" {
			t.Errorf("Read tells bytes")
		}
		errs(t, "Register", d.Register(key), api.ErrArg)
		errs(t, "Flush", d.Flush(key), api.ErrArg)
		errs(t, "Fence", d.Fence(key, 1), api.ErrArg)
		errs(t, "Fence", d.Fence(1, key), api.ErrArg)
		d.Drop(key, 1)
		if d.Registered(key) || d.Cached(key) != 0 {
			t.Errorf("Registered: %v, Cached: %d", d.Registered(key), d.Cached(key))
		}
	}
	d.Power(1, 1)
	if d.Sectors() != 0 || d.Takes(1) != 0 || len(d.Pending()) != 0 || d.Peek(0) != "" || d.Peek(-1) != "" {
		t.Errorf("%d, %d, %v, %q", d.Sectors(), d.Takes(), d.Pending(), d.Peek(0))
	}
}

// A zero disk has no sectors, and takes no keys.
func TestZero(t *testing.T) {
	for _, d := range []*disk.Disk{{}, new(disk.Disk)} {
		for _, key := range []int{1, 2, 0, -1} {
			errs(t, "Register", d.Register(key), api.ErrArg)
			for what, e := range commands(d, key, 0, x) {
				errs(t, what, e, api.ErrArg)
			}
			errs(t, "Flush", d.Flush(key), api.ErrFenced)
			errs(t, "Fence", d.Fence(key, 1), api.ErrFenced)
			errs(t, "Fence of no key", d.Fence(key, 0), api.ErrArg)
			d.Drop(key, 1)
			if d.Registered(key) || d.Cached(key) != 0 {
				t.Errorf("Registered: %v, Cached: %d", d.Registered(key), d.Cached(key))
			}
		}
		d.Power(1, 1)
		if d.Sectors() != 0 || d.Takes(1) != 0 || len(d.Pending()) != 0 || d.Peek(0) != "" || d.Peek(-1) != "" {
			t.Errorf("%d, %d, %v, %q", d.Sectors(), d.Takes(), d.Pending(), d.Peek(0))
		}
	}
}

// The last sector is one like all others, the one behind it is none; also of the greatest disk.
func TestLastSector(t *testing.T) {
	for _, n := range []int{1, 2, 65536} {
		d := made(n, 1)
		errs(t, "Write", d.Write(1, n-1, x), api.OK)
		errs(t, "Write behind", d.Write(1, n, x), api.ErrArg)
		errs(t, "Flush", d.Flush(1), api.OK)
		lies(t, "flushed", d, n-1, x)
		errs(t, "Swap", d.Swap(1, n-1, x, y), api.OK)
		errs(t, "Swap behind", d.Swap(1, n, blank, y), api.ErrArg)
		lies(t, "swapped", d, n-1, y)
		lies(t, "behind", d, n, "")
		if n > 1 {
			lies(t, "ahead", d, n-2, blank)
		}
	}
}

// R3: what was handed in stays as it was, and what was told does not change later, nor when it is changed.
func TestNothingShared(t *testing.T) {
	d := made(3, 1, 2, 3, 4)
	d.Write(1, 0, x)
	read, _ := d.Read(1, 0)
	peek := d.Peek(0)
	d.Fence(1, 2)
	d.Fence(1, 3)
	pending := d.Pending()
	for i := range pending {
		pending[i] = -7
	}
	_ = append(pending[:0], 4, 4, 4, 4)
	if l := d.Pending(); !slices.Equal(l, []int{2, 3}) {
		t.Errorf("pending, behind what was told was changed: %v", l)
	}
	told := d.Pending()
	d.Takes()
	d.Fence(1, 4)
	if !slices.Equal(told, []int{2, 3}) {
		t.Errorf("what was told became %v", told)
	}
	picks := []int{1, 0, 1}
	d.Write(1, 1, y)
	d.Drop(1, picks...)
	picks[0] = 0
	d.Power(picks...)
	d.Takes(picks...)
	if !slices.Equal(picks, []int{0, 0, 1}) {
		t.Errorf("picks became %v", picks)
	}
	lies(t, "dropped", d, 0, x)
	if read != x || peek != blank {
		t.Errorf("what was told became %.4x.., %.4x..", read, peek)
	}
}

// R3: bytes that were made out of a slice are those of the call, whatever becomes of the slice.
func TestBytesOfTheCall(t *testing.T) {
	b := []byte(x)
	d := made(2, 1)
	d.Write(1, 0, string(b))
	d.Swap(1, 1, blank, string(b))
	copy(b, y)
	d.Flush(1)
	lies(t, "written", d, 0, x)
	lies(t, "swapped", d, 1, x)
}

// Two disks have nothing in common: the package keeps nothing beside its disks.
func TestTwoDisks(t *testing.T) {
	a, b := made(3, 1, 2), made(3, 1)
	a.Write(1, 0, x)
	a.Swap(1, 1, blank, x)
	a.Fence(2, 1)
	if b.Cached(1) != 0 || b.Peek(1) != blank || len(b.Pending()) != 0 || b.Registered(2) {
		t.Errorf("the other disk has %d writes, %.4x.., pending %v", b.Cached(1), b.Peek(1), b.Pending())
	}
	b.Flush(1)
	b.Power(1)
	if a.Cached(1) != 1 || !slices.Equal(a.Pending(), []int{1}) {
		t.Errorf("the first one has %d writes, pending %v", a.Cached(1), a.Pending())
	}
}

// R5: rows of writes and of picks of any length are settled.
func TestLong(t *testing.T) {
	const n = 100000
	d := made(n, 1, 2)
	picks := make([]int, n+5)
	for i := range n {
		d.Write(1, i%65536, bytesOf(byte(i>>16)+1))
		picks[i] = i % 3
	}
	if d.Cached(1) != n {
		t.Errorf("Cached: %d", d.Cached(1))
	}
	d.Fence(2, 1)
	d.Takes(picks...)
	for sector := range 65536 {
		want := blank
		if sector%3 == 1 {
			want = bytesOf(1)
		}
		if i := sector + 65536; i < n && i%3 == 1 {
			want = bytesOf(2)
		}
		if d.Peek(sector) != want {
			t.Fatalf("in sector %d lies %.4x.., want %.4x..", sector, d.Peek(sector), want)
		}
	}
}

// script does n calls that a number picks, on a disk and on the model, and holds all against each other.
func script(t *testing.T, seed, n int) []string {
	r := draws(seed)
	sectors := 1 + r.below(5)
	d, m := disk.New(sectors), newModel(sectors)
	keys := []int{-1, 0, 1, 2, 3, 4, 5, 6}
	some := func() int { return keys[r.below(len(keys))] }
	place := func() int { return r.below(sectors+2) - r.below(8)/7 }
	text := func() string {
		if r.below(12) == 0 {
			return x[:509+r.below(3)] + []string{"", "x", "xxxx"}[r.below(3)]
		}
		return []string{blank, x, y, z, bytesOf(byte(r.below(256)))}[r.below(5)]
	}
	var log []string
	for step := range n {
		picks := make([]int, r.below(6))
		for i := range picks {
			picks[i] = r.below(7) - 3
		}
		var what string
		var got, want any
		switch r.below(16) {
		case 0, 1:
			key := some()
			what, got, want = fmt.Sprintf("Register(%d)", key), d.Register(key), m.register(key)
		case 2, 3, 4, 5, 6, 7:
			key, sector, s := some(), place(), text()
			what = fmt.Sprintf("Write(%d, %d, %.2x..)", key, sector, s)
			got, want = d.Write(key, sector, s), m.write(key, sector, s)
		case 8:
			key := some()
			what, got, want = fmt.Sprintf("Flush(%d)", key), d.Flush(key), m.flush(key)
		case 9, 10, 11:
			key, sector, old, now := some(), place(), text(), text()
			if r.below(2) == 0 {
				old = m.peek(sector)
			}
			what = fmt.Sprintf("Swap(%d, %d, %.2x.., %.2x..)", key, sector, old, now)
			got, want = d.Swap(key, sector, old, now), m.swap(key, sector, old, now)
		case 12:
			key, target := some(), some()
			what, got, want = fmt.Sprintf("Fence(%d, %d)", key, target), d.Fence(key, target), m.fence(key, target)
		case 13:
			if step%3 == 0 {
				what, got, want = fmt.Sprintf("Takes(%v)", picks), d.Takes(picks...), m.takes(picks)
			}
		case 14:
			key := some()
			what = fmt.Sprintf("Drop(%d, %v)", key, picks)
			d.Drop(key, picks...)
			m.settle(key, picks)
		case 15:
			what = fmt.Sprintf("Power(%v)", picks)
			d.Power(picks...)
			m.power(picks)
		}
		what = fmt.Sprintf("script %d, step %d: %s: %v", seed, step, what, got)
		if got != want {
			t.Fatalf("%s, want %v", what, want)
		}
		same(t, what, d, m, keys)
		log = append(log, what)
	}
	return log
}

// P4.1 to P4.5: scripts that look like chance, and (R4) once more, with the same answers.
func TestScripts(t *testing.T) {
	for seed := range 300 {
		script(t, seed, 120)
	}
	if a, b := script(t, 1000, 400), script(t, 1000, 400); !slices.Equal(a, b) {
		t.Error("the same calls have other answers")
	}
}
