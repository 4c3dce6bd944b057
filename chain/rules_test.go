package chain_test

import (
	"iter"
	"math"
	"slices"
	"testing"

	"tessera/api"
	"tessera/chain"
)

// R1, R5: numbers that no chain has, also of chains with none, with one and with as many as there may be.
func TestNumbersThatNeverStandThere(t *testing.T) {
	for _, n := range []int{math.MinInt, -1, 0, 1, 2, 9, api.MaxText, math.MaxInt} {
		c := chain.New(n)
		before := c.Len()
		for _, i := range farNumbers() {
			if c.Has(i) || c.Next(i) != -1 || c.Prev(i) != -1 || c.Cut(i) {
				t.Errorf("New(%d): %d stands there", n, i)
			}
		}
		if c.Len() != before {
			t.Errorf("New(%d): Len %d behind Cuts of nothing, was %d", n, c.Len(), before)
		}
	}
}

// R5: one below 0 and one past the end, whichever were cut.
func TestNumbersBesideTheEnds(t *testing.T) {
	for n := range 8 {
		x := bothOf(t, n)
		for _, i := range append([]int{-1}, mixed(n)...) {
			x.cutAll(i, -1, -2, n, n+1, math.MinInt, math.MaxInt)
		}
	}
}

// R3: a Cut that is refused has changed nothing.
func TestARefusedCutChangesNothing(t *testing.T) {
	for n := range 10 {
		x := bothOf(t, n)
		order := mixed(n)
		for at, i := range order {
			x.cut(i)
			for _, again := range append(order[:at+1:at+1], farNumbers()...) {
				x.cut(again)
			}
			x.ask()
		}
	}
}

// What is asked changes nothing.
func TestQuestionsChangeNothing(t *testing.T) {
	x := bothOf(t, 9)
	for _, i := range []int{4, 0, 8, 5} {
		x.cut(i)
		for range 3 {
			x.ask()
		}
	}
}

// Two chains don't hang on one another.
func TestTwoChains(t *testing.T) {
	one, two := bothOf(t, 8), bothOf(t, 8)
	for i := range 8 {
		one.cut(i)
		two.cut(7 - i)
		one.ask()
		two.ask()
	}
}

// An iterator stays with its own chain.
func TestIteratorsOfTwoChains(t *testing.T) {
	one, two := chain.New(3), chain.New(5)
	a, b := one.All(), two.All()
	two.Cut(1)
	if got := slices.Collect(a); !slices.Equal(got, []int{0, 1, 2}) {
		t.Errorf("the first chain: %v", got)
	}
	if got := slices.Collect(b); !slices.Equal(got, []int{0, 2, 3, 4}) {
		t.Errorf("the second chain: %v", got)
	}
}

// R4: chains that were cut alike are alike, in whatever order they were cut.
func TestTheSameBehindAnyOrder(t *testing.T) {
	for l := range ordersOf(4) {
		x := bothOf(t, 6)
		for _, i := range l {
			x.cut(i + 1)
		}
		if !slices.Equal(x.row, []int{0, 5}) {
			t.Fatalf("the test's own row: %v", x.row)
		}
		x.ask()
	}
}

// R1: a ranging amid which numbers are cut ends, too, and hands out rising numbers that stand there.
func TestCutsAmidARangingEnd(t *testing.T) {
	const n = 6
	for l := range listsOf(n, n+1) {
		x := bothOf(t, n)
		at, last := 0, -1
		for i := range x.chain.All() {
			if i <= last || !x.row.has(i) {
				t.Fatalf("cuts %v: %d behind %d, of %v", l, i, last, x.row)
			}
			last = i
			x.cut(l[at])
			at++
		}
		x.ask()
	}
}

// The one that is handed out is cut, alone or with some about it: what still stands comes.
func TestCutOfTheNumberThatIsHandedOut(t *testing.T) {
	for near, want := range map[int][]int{
		0:  {0, 1, 2, 3, 4, 5, 6, 7},
		1:  {0, 2, 4, 6},
		2:  {0, 3, 6},
		-1: {0, 1, 2, 3, 4, 5, 6, 7},
		9:  {0},
	} {
		c := chain.New(8)
		var got []int
		for i := range c.All() {
			got = append(got, i)
			for about := min(0, near); about <= max(0, near); about++ {
				c.Cut(i + about)
			}
		}
		if !slices.Equal(got, want) {
			t.Errorf("with %d about it: %v, want %v", near, got, want)
		}
		if c.Len() != 0 {
			t.Errorf("with %d about it: %d stay", near, c.Len())
		}
	}
}

// Two rangings that go in turn, with Cuts between, end.
func TestTwoRangingsInTurn(t *testing.T) {
	c := chain.New(9)
	one, stopOne := iter.Pull(c.All())
	two, stopTwo := iter.Pull(c.All())
	defer stopOne()
	defer stopTwo()
	var got []int
	for {
		i, ok := one()
		if !ok {
			break
		}
		c.Cut(i)
		if j, ok := two(); ok {
			got = append(got, j)
			c.Cut(j)
		}
	}
	if want := []int{1, 3, 5, 7}; !slices.Equal(got, want) || c.Len() != 0 {
		t.Errorf("the second one: %v, %d stay", got, c.Len())
	}
}

// A ranging whose body panics leaves the chain as it was.
func TestAPanicAmidARanging(t *testing.T) {
	x := bothOf(t, 5)
	x.cut(2)
	func() {
		defer func() { recover() }()
		for i := range x.chain.All() {
			if i == 3 {
				panic("amid")
			}
		}
	}()
	x.ask()
}
