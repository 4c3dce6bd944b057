package chain_test

import (
	"math"
	"math/rand"
	"slices"
	"testing"

	"tessera/api"
	"tessera/chain"
)

// The runs of the chapter.
func TestRuns(t *testing.T) {
	c := chain.New(4)
	if !c.Cut(1) || !c.Cut(2) {
		t.Error("Cut of what stands there: false")
	}
	if next, prev := c.Next(0), c.Prev(3); next != 3 || prev != 0 {
		t.Errorf("Next(0), Prev(3): %d, %d", next, prev)
	}
	if l := slices.Collect(c.All()); !slices.Equal(l, []int{0, 3}) {
		t.Errorf("All: %v", l)
	}
	if a, b, again := c.Next(1), c.Next(9), c.Cut(1); a != -1 || b != -1 || again {
		t.Errorf("Next(1), Next(9), Cut(1) again: %d, %d, %v", a, b, again)
	}
	if n := chain.New(-1).Len(); n != 0 {
		t.Errorf("Len of New(-1): %d", n)
	}
}

// Examples 1 and 3.
func TestTheTwoEnds(t *testing.T) {
	for n := 1; n < 20; n++ {
		c := chain.New(n)
		if next, prev := c.Next(n-1), c.Prev(0); next != -1 || prev != -1 {
			t.Errorf("New(%d): Next of the last one %d, Prev of the first one %d", n, next, prev)
		}
	}
}

// Example 2.
func TestAllOfAChainOfWhichAllWereCut(t *testing.T) {
	for n := range 20 {
		c := chain.New(n)
		for i := range n {
			c.Cut(i)
		}
		for i := range c.All() {
			t.Errorf("New(%d), all cut: All hands out %d", n, i)
		}
	}
}

// P9.1

func TestNewLinksTheNumbersInTheirOrder(t *testing.T) {
	for n := range 70 {
		bothOf(t, n).ask()
	}
}

func TestNewOfLessThanNothing(t *testing.T) {
	for _, n := range []int{-1, -2, -255, -256, -257, -api.MaxText, -1 << 31, -1<<32 + 3, math.MinInt + 3, math.MinInt} {
		x := bothOf(t, n)
		x.n = 5
		x.ask()
		x.cutAll(n, -1, 0, 1)
	}
}

func TestNewOfManyNumbers(t *testing.T) {
	for n, want := range map[int]int{
		api.MaxText - 1: api.MaxText - 1,
		api.MaxText:     api.MaxText,
		api.MaxText + 1: api.MaxText,
		2 * api.MaxText: api.MaxText,
		1<<32 + 1:       api.MaxText,
		math.MaxInt - 1: api.MaxText,
		math.MaxInt:     api.MaxText,
	} {
		c := chain.New(n)
		if got := c.Len(); got != want {
			t.Errorf("New(%d): Len %d", n, got)
		}
		checkLinks(t, c, rowOf(want))
		for _, i := range []int{-1, want, want + 1, n, math.MaxInt} {
			if c.Has(i) || c.Next(i) != -1 || c.Prev(i) != -1 || c.Cut(i) {
				t.Errorf("New(%d): %d stands there", n, i)
			}
		}
	}
}

// checkLinks holds c against l, both ways and by All, without looking all through l for each number.
func checkLinks(t *testing.T, c *chain.Chain, l []int) {
	t.Helper()
	if c.Len() != len(l) {
		t.Fatalf("Len: %d, want %d", c.Len(), len(l))
	}
	prev := -1
	for at, i := range l {
		next := -1
		if at < len(l)-1 {
			next = l[at+1]
		}
		if !c.Has(i) || c.Prev(i) != prev || c.Next(i) != next {
			t.Fatalf("of %d: Has %v, Prev %d, Next %d, want %d, %d", i, c.Has(i), c.Prev(i), c.Next(i), prev, next)
		}
		prev = i
	}
	if got := collect(t, c, len(l)); !slices.Equal(got, l) {
		t.Fatalf("All hands out %d numbers, other ones than the %d that stand there", len(got), len(l))
	}
}

// P9.2, P9.3

// Every order in which up to six numbers are cut, with every question behind each Cut.
func TestEveryOrderOfCuts(t *testing.T) {
	for n := range 7 {
		for l := range ordersOf(n) {
			x := bothOf(t, n)
			x.cutAll(l...)
			if x.chain.Len() != 0 {
				t.Fatalf("all cut: Len %d", x.chain.Len())
			}
			x.cutAll(l...)
		}
	}
}

// Every row of up to five Cuts of four numbers and one past the end, so that most of them cut again.
func TestEveryShortRowOfCuts(t *testing.T) {
	for n := range 5 {
		for l := range listsOf(5, 5) {
			bothOf(t, n).cutAll(l...)
		}
	}
}

func TestCutOfTheEndsAndAmid(t *testing.T) {
	const n = 9
	for _, l := range [][]int{
		{0}, {n - 1}, {4}, {0, 1}, {1, 0}, {n - 1, n - 2}, {n - 2, n - 1}, {0, n - 1}, {n - 1, 0}, {3, 4, 5}, {5, 4, 3}, {3, 5, 4},
		{1, 2, 3, 4, 5, 6, 7}, {7, 6, 5, 4, 3, 2, 1}, {1, 3, 5, 7, 2, 4, 6},
	} {
		bothOf(t, n).cutAll(l...)
	}
}

// All but one, whichever it is, from either side and from amid.
func TestCutOfAllButOne(t *testing.T) {
	for n := 1; n < 12; n++ {
		for stays := range n {
			for _, l := range [][]int{rowOf(n), falling(n), mixed(n)} {
				x := bothOf(t, n)
				x.cutAll(row(l).cut(stays)...)
				if !slices.Equal(x.row, []int{stays}) {
					t.Fatalf("the test's own row: %v", x.row)
				}
				x.cutAll(stays)
			}
		}
	}
}

// falling answers the numbers from n - 1 to 0.
func falling(n int) []int {
	l := rowOf(n)
	slices.Reverse(l)
	return l
}

func TestAnyCuts(t *testing.T) {
	for seed := range int64(100) {
		r := rand.New(rand.NewSource(seed))
		n := r.Intn(40)
		x := bothOf(t, n)
		for range 2 * n {
			x.cutAll(r.Intn(n+6) - 3)
		}
		x.cutAll(mixed(n)...)
	}
}

// The greatest chain, of which half are cut, then all, in any order.
func TestCutsOfManyNumbers(t *testing.T) {
	const n = api.MaxText
	for _, order := range [][]int{rowOf(n), falling(n), mixed(n)} {
		c := chain.New(n)
		for _, i := range order[:n/2] {
			if !c.Cut(i) {
				t.Fatalf("Cut(%d): false", i)
			}
		}
		checkLinks(t, c, slices.Sorted(slices.Values(order[n/2:])))
		for _, i := range order[:n/2] {
			if c.Has(i) || c.Next(i) != -1 || c.Prev(i) != -1 || c.Cut(i) {
				t.Fatalf("%d was cut and stands there", i)
			}
		}
		for _, i := range order[n/2:] {
			if !c.Cut(i) {
				t.Fatalf("Cut(%d): false", i)
			}
		}
		checkLinks(t, c, nil)
	}
}

// P9.4

// Gone over twice, and by a second iterator, it hands out the same.
func TestAllAgain(t *testing.T) {
	for n := range 20 {
		x := bothOf(t, n)
		for _, i := range append([]int{-1}, mixed(n)...) {
			x.cut(i)
			all := x.chain.All()
			for range 3 {
				if got := slices.Collect(all); !slices.Equal(got, x.row) {
					t.Fatalf("All: %v, want %v", got, x.row)
				}
			}
			x.askAll()
		}
	}
}

// Left at each of its numbers, it hands out no more, and all of them the next time.
func TestAllLeftEarly(t *testing.T) {
	for n := range 12 {
		x := bothOf(t, n)
		for _, i := range append([]int{-1}, mixed(n)...) {
			x.cut(i)
			all := x.chain.All()
			for most := range x.row {
				var got []int
				for i := range all {
					got = append(got, i)
					if len(got) == most+1 {
						break
					}
				}
				if !slices.Equal(got, x.row[:most+1]) {
					t.Fatalf("All, left behind %d: %v, of %v", most+1, got, x.row)
				}
				if got := slices.Collect(all); !slices.Equal(got, x.row) {
					t.Fatalf("All, once more: %v, want %v", got, x.row)
				}
			}
			x.ask()
		}
	}
}

// One iterator gone over again behind each Cut hands out what stands there then.
func TestAllBehindACut(t *testing.T) {
	for n := range 12 {
		for _, order := range [][]int{rowOf(n), falling(n), mixed(n)} {
			x := bothOf(t, n)
			all := x.chain.All()
			for _, i := range order {
				x.cut(i)
				if got := slices.Collect(all); !slices.Equal(got, x.row) {
					t.Fatalf("All behind Cut(%d): %v, want %v", i, got, x.row)
				}
			}
		}
	}
}

// Ranged over within a ranging, each goes its own way.
func TestAllWithinAll(t *testing.T) {
	c := chain.New(7)
	c.Cut(3)
	c.Cut(0)
	all := c.All()
	want := []int{1, 2, 4, 5, 6}
	var outer []int
	for i := range all {
		outer = append(outer, i)
		if inner := slices.Collect(all); !slices.Equal(inner, want) {
			t.Errorf("within %d: %v", i, inner)
		}
	}
	if !slices.Equal(outer, want) {
		t.Errorf("All: %v, want %v", outer, want)
	}
}
