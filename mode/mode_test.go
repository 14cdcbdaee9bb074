package mode_test

import (
	"math"
	"testing"

	"lockgate/api"
	"lockgate/mode"
)

// three are the modes, by rising strength.
var three = []int{0, 1, 2}

// noModes are numbers that are none: next to the modes, and those that a part of their bits, or their size without the sign, might have taken for one.
var noModes = []int{
	math.MinInt, math.MinInt + 1, math.MinInt + 2, -1 << 32, -1<<32 + 1, -1<<32 + 2, -256, -255, -254, -4, -3, -2, -1,
	3, 4, 5, 6, 7, 8, 16, 127, 128, 255, 256, 257, 258, 1 << 16, 1<<16 + 1, 1<<16 + 2, 1 << 31, 1<<31 + 1, 1<<31 + 2,
	1 << 32, 1<<32 + 1, 1<<32 + 2, 1<<62 + 1, math.MaxInt - 2, math.MaxInt - 1, math.MaxInt,
}

// numbers are all of both kinds.
func numbers() []int { return append(append([]int(nil), three...), noModes...) }

// isMode tells whether m is one of the three.
func isMode(m int) bool { return m == 0 || m == 1 || m == 2 }

// The document's tables: of each mode with each one.
var (
	fits = [3][3]bool{
		{true, true, true},
		{true, true, false},
		{true, false, false},
	}
	covers = [3][3]bool{
		{true, false, false},
		{true, true, false},
		{true, true, true},
	}
	stronger = [3][3]int{
		{0, 1, 2},
		{1, 1, 2},
		{2, 2, 2},
	}
)

// check fails the test, if got is not what is wanted.
func check[T comparable](t *testing.T, what string, at any, got, want T) {
	t.Helper()
	if got != want {
		t.Errorf("%s of %v tells %v, not %v", what, at, got, want)
	}
}

// The chapter's examples.
func TestExamples(t *testing.T) {
	check(t, "Fit", "Share, Share", mode.Fit(api.Share, api.Share), true)
	check(t, "Fit", "Share, Alone", mode.Fit(api.Share, api.Alone), false)
	check(t, "Rest", "None", mode.Rest(api.None), api.Alone)
	check(t, "Rest", "Share", mode.Rest(api.Share), api.Share)
	check(t, "Rest", "Alone", mode.Rest(api.Alone), api.None)
}

// P8.1: the three are modes, with these names, and nothing else is one.
func TestIsAndName(t *testing.T) {
	for m, name := range []string{"none", "share", "alone"} {
		check(t, "Is", m, mode.Is(m), true)
		check(t, "Name", m, mode.Name(m), name)
	}
	for _, m := range noModes {
		check(t, "Is", m, mode.Is(m), false)
		check(t, "Name", m, mode.Name(m), "")
	}
	check(t, "Name", "api's None", mode.Name(api.None), "none")
	check(t, "Name", "api's Share", mode.Name(api.Share), "share")
	check(t, "Name", "api's Alone", mode.Name(api.Alone), "alone")
}

// P8.1: what is so of all pairs of the three.
func TestPairs(t *testing.T) {
	for _, a := range three {
		for _, b := range three {
			at := [2]int{a, b}
			check(t, "Fit", at, mode.Fit(a, b), fits[a][b])
			check(t, "Covers", at, mode.Covers(a, b), covers[a][b])
			check(t, "Max", at, mode.Max(a, b), stronger[a][b])
		}
	}
}

// P8.1: false and None, if one of a pair is no mode, or neither is one.
func TestPairsWithNone(t *testing.T) {
	for _, a := range numbers() {
		for _, b := range numbers() {
			if isMode(a) && isMode(b) {
				continue
			}
			at := [2]int{a, b}
			check(t, "Fit", at, mode.Fit(a, b), false)
			check(t, "Covers", at, mode.Covers(a, b), false)
			check(t, "Max", at, mode.Max(a, b), 0)
		}
	}
}

// P8.1: Rest is what another node may have at most beside a mode; None of numbers that are none.
func TestRest(t *testing.T) {
	for m, want := range []int{2, 1, 0} {
		check(t, "Rest", m, mode.Rest(m), want)
	}
	for _, m := range noModes {
		check(t, "Rest", m, mode.Rest(m), 0)
	}
}

// P8.1: what is told of the numbers around the modes, one by one and two by two, without a gap.
func TestAround(t *testing.T) {
	for a := -300; a <= 300; a++ {
		check(t, "Is", a, mode.Is(a), isMode(a))
		check(t, "Name", a, mode.Name(a) != "", isMode(a))
		for b := -300; b <= 300; b++ {
			at, both := [2]int{a, b}, isMode(a) && isMode(b)
			check(t, "Fit", at, mode.Fit(a, b), both && fits[a][b])
			check(t, "Covers", at, mode.Covers(a, b), both && covers[a][b])
			check(t, "Max above None", at, mode.Max(a, b) > 0, both && a+b > 0)
		}
	}
}

// P8.3: Fit does not hang on the order.
func TestFitBothWays(t *testing.T) {
	for _, a := range numbers() {
		for _, b := range numbers() {
			check(t, "Fit", [2]int{b, a}, mode.Fit(b, a), mode.Fit(a, b))
		}
	}
}

// P8.3: what fits a mode fits all that it covers.
func TestFitsWhatIsCovered(t *testing.T) {
	for _, a := range numbers() {
		for _, m := range numbers() {
			for _, below := range numbers() {
				if mode.Fit(a, m) && mode.Covers(m, below) {
					check(t, "Fit", [3]int{a, m, below}, mode.Fit(a, below), true)
				}
			}
		}
	}
}

// P8.3: Rest fits, and nothing stronger does.
func TestRestFits(t *testing.T) {
	for _, m := range three {
		rest := mode.Rest(m)
		check(t, "Is of Rest", m, mode.Is(rest), true)
		check(t, "Fit with Rest", m, mode.Fit(m, rest), true)
		for _, other := range numbers() {
			if mode.Fit(m, other) {
				check(t, "Covers of Rest", [2]int{m, other}, mode.Covers(rest, other), true)
			}
		}
	}
}

// P8.1: Covers puts the modes in one order, and Max tells the one of two that covers the other one.
func TestStrengthIsAnOrder(t *testing.T) {
	for _, a := range three {
		for _, b := range three {
			at := [2]int{a, b}
			check(t, "Covers, or is covered,", at, mode.Covers(a, b) || mode.Covers(b, a), true)
			check(t, "Covers, and is covered,", at, mode.Covers(a, b) && mode.Covers(b, a), a == b)
			top := mode.Max(a, b)
			check(t, "Max", at, top == a || top == b, true)
			check(t, "Covers by Max", at, mode.Covers(top, a) && mode.Covers(top, b), true)
			check(t, "Max the other way", at, mode.Max(b, a), top)
			for _, c := range three {
				if mode.Covers(a, b) && mode.Covers(b, c) {
					check(t, "Covers", [3]int{a, b, c}, mode.Covers(a, c), true)
				}
			}
		}
	}
}

// R4: the same calls have the same answers, whatever was called in between.
func TestSameAgain(t *testing.T) {
	type told struct {
		is, fit, covers bool
		max, rest       int
		name            string
	}
	ask := func(a, b int) told {
		return told{mode.Is(a), mode.Fit(a, b), mode.Covers(a, b), mode.Max(a, b), mode.Rest(a), mode.Name(a)}
	}
	first := map[[2]int]told{}
	for _, a := range numbers() {
		for _, b := range numbers() {
			first[[2]int{a, b}] = ask(a, b)
		}
	}
	for at, want := range first {
		check(t, "what is told once more", at, ask(at[0], at[1]), want)
	}
}
