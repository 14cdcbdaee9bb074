package queue_test

import (
	"math"
	"slices"
	"strconv"
	"strings"
	"testing"

	"lockgate/api"
	"lockgate/queue"
)

// letters are those of the modes in the tests' texts; x is a number that is none.
const letters = "nsax"

// claimsOf reads claims: nodes, each with a mode's letter behind it.
func claimsOf(s string) []api.Claim {
	var l []api.Claim
	for _, w := range strings.Fields(s) {
		last := len(w) - 1
		node, err := strconv.Atoi(w[:last])
		m := strings.IndexByte(letters, w[last])
		if err != nil || m < 0 {
			panic("no claim: " + w)
		}
		l = append(l, api.Claim{Node: node, Mode: m})
	}
	return l
}

// queueOf reads a queue: what is had, a stroke, who waits.
func queueOf(s string) api.Queue {
	has, waits, _ := strings.Cut(s, "|")
	return api.Queue{Has: claimsOf(has), Waits: claimsOf(waits)}
}

// claimsText is what claimsOf reads; modes without a letter stand there as numbers.
func claimsText(l []api.Claim) string {
	var words []string
	for _, c := range l {
		m := "?" + strconv.Itoa(c.Mode)
		if c.Mode >= 0 && c.Mode < len(letters) {
			m = letters[c.Mode : c.Mode+1]
		}
		words = append(words, strconv.Itoa(c.Node)+m)
	}
	return strings.Join(words, " ")
}

// text is what queueOf reads.
func text(q api.Queue) string { return claimsText(q.Has) + "|" + claimsText(q.Waits) }

// equal tells whether two queues have the same lists.
func equal(a, b api.Queue) bool {
	return slices.Equal(a.Has, b.Has) && slices.Equal(a.Waits, b.Waits)
}

// clone is a queue that shares nothing with q.
func clone(q api.Queue) api.Queue {
	return api.Queue{Has: slices.Clone(q.Has), Waits: slices.Clone(q.Waits)}
}

// farNodes are numbers of no nodes: those next to the nodes, and some that a part of their bits might have taken for one.
var farNodes = []int{math.MinInt, math.MinInt + 1, -1 << 32, -256, -8, -7, -2, -1, 8, 9, 15, 16, 63, 64, 256, 257, 1 << 16, 1 << 32, 1<<32 + 1, 1 << 62, math.MaxInt - 7, math.MaxInt}

// noModes are numbers of no modes.
var noModes = []int{math.MinInt, math.MinInt + 1, math.MinInt + 2, -1 << 32, -256, -255, -3, -2, -1, 3, 4, 5, 255, 256, 257, 258, 1 << 16, 1<<32 + 1, 1<<32 + 2, math.MaxInt}

// The reasons for which a queue may not be, as the chapter words them.
const (
	falling  = "what is had is not by rising nodes, each once"
	twice    = "a node waits twice"
	farNode  = "a node is not from 0 to 7"
	noMode   = "a mode is neither Share nor Alone"
	clashing = "what is had is not safe"
	unserved = "the first one that waits could be served"
)

// isMode tells whether m is one of the three.
func isMode(m int) bool { return m == 0 || m == 1 || m == 2 }

// fit tells whether two nodes may have two modes.
func fit(a, b int) bool {
	return isMode(a) && isMode(b) && (a == 0 || b == 0 || a == 1 && b == 1)
}

// safe tells whether claims may stand beside each other: each by itself, and any two.
func safe(l []api.Claim) bool {
	for i, a := range l {
		for _, b := range l[:i] {
			if a.Node == b.Node || !fit(a.Mode, b.Mode) {
				return false
			}
		}
		if !isMode(a.Mode) {
			return false
		}
	}
	return true
}

// serves tells whether the first one that waits fits all that other nodes have; modes that are none don't count there.
func serves(q api.Queue) bool {
	if len(q.Waits) == 0 || !isMode(q.Waits[0].Mode) {
		return false
	}
	for _, c := range q.Has {
		if c.Node != q.Waits[0].Node && isMode(c.Mode) && !fit(c.Mode, q.Waits[0].Mode) {
			return false
		}
	}
	return true
}

// reasons are all for which q may not be.
func reasons(q api.Queue) []string {
	found := map[string]bool{clashing: !safe(q.Has), unserved: serves(q)}
	for i, c := range q.Has {
		found[falling] = found[falling] || i > 0 && q.Has[i-1].Node >= c.Node
	}
	for i, c := range q.Waits {
		for _, other := range q.Waits[:i] {
			found[twice] = found[twice] || other.Node == c.Node
		}
	}
	for _, c := range slices.Concat(q.Has, q.Waits) {
		found[farNode] = found[farNode] || c.Node < 0 || c.Node > 7
		found[noMode] = found[noMode] || c.Mode != 1 && c.Mode != 2
	}
	var l []string
	for _, r := range []string{falling, twice, farNode, noMode, clashing, unserved} {
		if found[r] {
			l = append(l, r)
		}
	}
	return l
}

// checks fails the test, if Check doesn't tell what the chapter words.
func checks(t *testing.T, q api.Queue) {
	t.Helper()
	want, why := api.OK, reasons(q)
	if len(why) > 0 {
		want = api.ErrArg
	}
	if got := queue.Check(q); got != want {
		t.Fatalf("Check of %s tells %d, not %d: %v", text(q), got, want, why)
	}
}

// The chapter's examples, one behind the other.
func TestExamples(t *testing.T) {
	q, told := queue.Want(api.Queue{}, 1, api.Share)
	same(t, "Want(empty, 1, Share)", q, told, "1s|", "1s")
	q, told = queue.Want(q, 2, api.Share)
	same(t, "Want(2, Share)", q, told, "1s 2s|", "2s")
	q, told = queue.Want(q, 3, api.Alone)
	same(t, "Want(3, Alone)", q, told, "1s 2s|3a", "")
	if l := queue.Calls(q); claimsText(l) != "1n 2n" {
		t.Errorf("Calls tells %s", claimsText(l))
	}
	q, told = queue.Drop(q, 1, api.None)
	same(t, "Drop(1, None)", q, told, "2s|3a", "")
	q, told = queue.Drop(q, 2, api.None)
	same(t, "Drop(2, None)", q, told, "3a|", "3a")
}

// P9.1: queues that may be.
func TestCheckRight(t *testing.T) {
	for _, s := range []string{
		"|", "0s|", "7s|", "0a|", "7a|", "3s 5s|", "0s 1s 2s 3s 4s 5s 6s 7s|",
		"1s|2a", "1a|2s", "1a|2a", "0a|7s", "7a|0a", "1s 2s|3a 4s", "1a|2s 3s 4a 0s",
		"1s 2s|1a", "1s 2s|2a", "1s 2s|2a 1a", "1s 2s|3a 1s", "1a|2s 1a", "1a|2s 1s",
		"1a|0s 2s 3s 4s 5s 6s 7s 1s", "0s 1s 2s 3s 4s 5s 6s 7s|7a 6a 5a 4a 3a 2a 1a 0a",
	} {
		q := queueOf(s)
		if got := queue.Check(q); got != api.OK || len(reasons(q)) > 0 {
			t.Errorf("Check of %s tells %d; against it: %v", s, got, reasons(q))
		}
	}
	for _, q := range []api.Queue{{}, {Has: []api.Claim{}}, {Waits: []api.Claim{}}, {Has: []api.Claim{}, Waits: []api.Claim{}}} {
		if got := queue.Check(q); got != api.OK {
			t.Errorf("Check of an empty queue tells %d", got)
		}
	}
}

// wrongQueues are queues that may not be, each with just the reasons that speak against it.
func wrongQueues() map[string][]string {
	return map[string][]string{
		"2s 1s|":          {falling},
		"1s 3s 2s|":       {falling},
		"7s 0s|":          {falling},
		"2s 1s|3a":        {falling},
		"1s 1s|":          {falling, clashing},
		"1s 2s 1s|":       {falling, clashing},
		"1a 1a|":          {falling, clashing},
		"1a|2s 2s":        {twice},
		"1a|2s 2a":        {twice},
		"1a|2s 3s 2s":     {twice},
		"1a|0s 2s 3a 3a":  {twice},
		"1s 2s|1a 1a":     {twice},
		"-1s|":            {farNode},
		"8s|":             {farNode},
		"1s 8s|":          {farNode},
		"-1s 1s|":         {farNode},
		"1a|-1s":          {farNode},
		"1a|8a":           {farNode},
		"1a|2s 8a":        {farNode},
		"1a|2s -1a 3s":    {farNode},
		"1a|2n":           {noMode, unserved},
		"1a|2x":           {noMode},
		"1a|2s 3x":        {noMode},
		"1a|2s 3n":        {noMode},
		"1a|2s 3n 4s":     {noMode},
		"1n|":             {noMode},
		"1n 2n|":          {noMode},
		"1n 2a|":          {noMode},
		"1s 2n|":          {noMode},
		"1x|":             {noMode, clashing},
		"1s 2x|":          {noMode, clashing},
		"1s 2a|":          {clashing},
		"1a 2s|":          {clashing},
		"1a 2a|":          {clashing},
		"1s 2s 3s 4a|":    {clashing},
		"1a 2s|3s":        {clashing},
		"|1s":             {unserved},
		"|1a":             {unserved},
		"|1a 2a":          {unserved},
		"1s|2s":           {unserved},
		"1s|1a":           {unserved},
		"1s|1s":           {unserved},
		"1a|1s":           {unserved},
		"1a|1a":           {unserved},
		"1s 2s|1s":        {unserved},
		"1s 2s|3s 4a":     {unserved},
		"2s 1s|3s":        {falling, unserved},
		"2s 1s|3a 3s":     {falling, twice},
		"8s 1s|":          {falling, farNode},
		"8s 1s|2s 2s":     {falling, twice, farNode, unserved},
		"2a 1s|":          {falling, clashing},
		"2n 1s|":          {falling, noMode},
		"1s 2a|3s 3s":     {twice, clashing},
		"|1s 1s":          {twice, unserved},
		"1a|8s 8s":        {twice, farNode},
		"1a|2x 2x":        {twice, noMode},
		"-1s 8a|":         {farNode, clashing},
		"|8s":             {farNode, unserved},
		"-1n|":            {farNode, noMode},
		"1s 2a|1a":        {clashing},
		"1a 2a|-1x -1x":   {twice, farNode, noMode, clashing},
		"8x 1a 1n|0n 0n":  {falling, twice, farNode, noMode, clashing, unserved},
		"-1a -1s|-1a -1x": {falling, twice, farNode, noMode, clashing, unserved},
	}
}

// P9.1: each reason against a queue, alone and with others.
func TestCheckWrong(t *testing.T) {
	alone := map[string]bool{}
	for s, want := range wrongQueues() {
		q := queueOf(s)
		if why := reasons(q); !slices.Equal(why, want) {
			t.Errorf("against %s speak %v, not %v", s, why, want)
		}
		if got := queue.Check(q); got != api.ErrArg {
			t.Errorf("Check of %s tells %d, though %v", s, got, want)
		}
		if len(want) == 1 {
			alone[want[0]] = true
		}
	}
	if len(alone) != 6 {
		t.Errorf("just %v speak against a queue alone", alone)
	}
}

// P9.1: each number as a node and as a mode, at each place.
func TestCheckFarNumbers(t *testing.T) {
	for _, s := range []string{"1s|", "1s 2s|", "1s 2s 3s|4a", "1a|2s", "1a|2s 3s 4a", "1s 2s|2a 1a"} {
		checks(t, queueOf(s))
		for i := range len(queueOf(s).Has) + len(queueOf(s).Waits) {
			for _, n := range slices.Concat(farNodes, noModes, []int{0, 1, 2, 3, 4, 5, 6, 7}) {
				for _, change := range []func(c *api.Claim){
					func(c *api.Claim) { c.Node = n },
					func(c *api.Claim) { c.Mode = n },
				} {
					q := queueOf(s)
					if i < len(q.Has) {
						change(&q.Has[i])
					} else {
						change(&q.Waits[i-len(q.Has)])
					}
					checks(t, q)
				}
			}
		}
	}
}

// lists are all of up to so many of these claims, in any order, any of them twice.
func lists(each []api.Claim, most int) [][]api.Claim {
	all := [][]api.Claim{nil}
	for from := 0; most > 0; most-- {
		to := len(all)
		for _, l := range all[from:to] {
			for _, c := range each {
				all = append(all, append(l[:len(l):len(l)], c))
			}
		}
		from = to
	}
	return all
}

// allClaims are those of these nodes with these modes.
func allClaims(nodes, modes []int) []api.Claim {
	var l []api.Claim
	for _, node := range nodes {
		for _, m := range modes {
			l = append(l, api.Claim{Node: node, Mode: m})
		}
	}
	return l
}

// P9.1: all queues of two lists of up to two claims, nodes and modes that are none among them, and of up to three claims of nodes and modes that may be.
func TestCheckAll(t *testing.T) {
	right := 0
	for _, each := range []struct {
		claims []api.Claim
		most   int
	}{
		{allClaims([]int{-1, 0, 7, 8}, []int{0, 1, 2, 3}), 2},
		{allClaims([]int{0, 3, 7}, []int{1, 2}), 3},
	} {
		all := lists(each.claims, each.most)
		for _, has := range all {
			for _, waits := range all {
				q := api.Queue{Has: has, Waits: waits}
				checks(t, q)
				if len(reasons(q)) == 0 {
					right++
				}
			}
		}
	}
	if right < 200 {
		t.Errorf("just %d of the queues may be", right)
	}
}
