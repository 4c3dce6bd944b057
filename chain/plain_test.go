package chain_test

import (
	"math"
	"math/rand"
	"slices"
	"testing"

	"tessera/api"
	"tessera/chain"
)

// row is the chapter word by word: the numbers that stand there, rising, in which each question looks all through.
type row []int

// rowOf answers the numbers from 0 to n - 1; n below 0 counts as 0, above MaxText as MaxText.
func rowOf(n int) row {
	var r row
	for i := 0; i < n && i < api.MaxText; i++ {
		r = append(r, i)
	}
	return r
}

func (r row) has(i int) bool { return slices.Contains(r, i) }

// next answers the number behind i.
func (r row) next(i int) int {
	at := slices.Index(r, i)
	if at < 0 || at == len(r)-1 {
		return -1
	}
	return r[at+1]
}

// prev answers the number ahead of i.
func (r row) prev(i int) int {
	at := slices.Index(r, i)
	if at <= 0 {
		return -1
	}
	return r[at-1]
}

// cut answers the row without i.
func (r row) cut(i int) row {
	return slices.DeleteFunc(slices.Clone(r), func(x int) bool { return x == i })
}

// both is a chain and a row that are moved alike.
type both struct {
	t     *testing.T
	n     int
	chain *chain.Chain
	row   row
}

// bothOf starts with the numbers below n.
func bothOf(t *testing.T, n int) *both { return &both{t, n, chain.New(n), rowOf(n)} }

// cut is P9.3, of i's that stand there and of others.
func (x *both) cut(i int) {
	x.t.Helper()
	if got, want := x.chain.Cut(i), x.row.has(i); got != want {
		x.t.Fatalf("Cut(%d) of %v: %v", i, x.row, got)
	}
	x.row = x.row.cut(i)
}

// cutAll cuts one behind the other, and asks all behind each.
func (x *both) cutAll(l ...int) {
	x.t.Helper()
	for _, i := range l {
		x.cut(i)
		x.ask()
	}
}

// ask is P9.2 and P9.4: all questions, of each number that may stand there and of some that never do.
func (x *both) ask() {
	x.t.Helper()
	if got := x.chain.Len(); got != len(x.row) {
		x.t.Fatalf("Len of %v: %d", x.row, got)
	}
	for i := -3; i < x.n+4; i++ {
		x.askOf(i)
	}
	for _, i := range farNumbers() {
		x.askOf(i)
	}
	x.askAll()
}

// askOf is P9.2 of i.
func (x *both) askOf(i int) {
	x.t.Helper()
	if got, want := x.chain.Has(i), x.row.has(i); got != want {
		x.t.Fatalf("Has(%d) of %v: %v", i, x.row, got)
	}
	if got, want := x.chain.Next(i), x.row.next(i); got != want {
		x.t.Fatalf("Next(%d) of %v: %d, want %d", i, x.row, got, want)
	}
	if got, want := x.chain.Prev(i), x.row.prev(i); got != want {
		x.t.Fatalf("Prev(%d) of %v: %d, want %d", i, x.row, got, want)
	}
}

// askAll is P9.4.
func (x *both) askAll() {
	x.t.Helper()
	if got := collect(x.t, x.chain, x.n); !slices.Equal(got, x.row) {
		x.t.Fatalf("All: %v, want %v", got, x.row)
	}
}

// collect answers what All hands out; it fails where these are more than most.
func collect(t *testing.T, c *chain.Chain, most int) []int {
	t.Helper()
	var l []int
	for i := range c.All() {
		if len(l) == max(most, 0) {
			t.Fatalf("All hands out more than %d numbers: %v", most, append(l, i))
		}
		l = append(l, i)
	}
	return l
}

// farNumbers answers numbers that stand in no chain, most of them near where a number of fewer bits ends.
func farNumbers() []int {
	l := []int{math.MinInt, math.MinInt + 1, math.MaxInt - 1, math.MaxInt, -1, -256}
	for _, bits := range []int{20, 31, 32, 62} {
		for near := range 3 {
			l = append(l, 1<<bits+near, -1<<bits+near, -1<<bits-near)
		}
	}
	return l
}

// mixed answers the numbers from 0 to n - 1 in some order.
func mixed(n int) []int { return rand.New(rand.NewSource(int64(n))).Perm(n) }

// ordersOf hands out each order of the numbers below n.
func ordersOf(n int) func(yield func([]int) bool) {
	return func(yield func([]int) bool) {
		l := make([]int, n)
		for i := range l {
			l[i] = i
		}
		order(l, 0, yield)
	}
}

// order hands out l with each order of what stands there from the place at on; it answers false when it was left.
func order(l []int, at int, yield func([]int) bool) bool {
	if at == len(l) {
		return yield(slices.Clone(l))
	}
	for i := at; i < len(l); i++ {
		l[at], l[i] = l[i], l[at]
		on := order(l, at+1, yield)
		l[at], l[i] = l[i], l[at]
		if !on {
			return false
		}
	}
	return true
}

// listsOf hands out each list of n numbers below top.
func listsOf(n, top int) func(yield func([]int) bool) {
	return func(yield func([]int) bool) {
		l := make([]int, n)
		for {
			if !yield(slices.Clone(l)) {
				return
			}
			at := 0
			for ; at < n && l[at] == top-1; at++ {
				l[at] = 0
			}
			if at == n {
				return
			}
			l[at]++
		}
	}
}
