package heap_test

import (
	"math/rand"
	"slices"
	"strings"
	"testing"

	"tessera/heap"
)

// The runs of the chapter.
func TestRuns(t *testing.T) {
	h := heap.Of(rising, 3, 1, 2)
	for _, want := range []int{1, 2, 3} {
		if x, ok := h.Pop(); x != want || !ok {
			t.Errorf("Pop: %d, %v, want %d", x, ok, want)
		}
	}
	if x, ok := h.Pop(); x != 0 || ok {
		t.Errorf("Pop of nothing: %d, %v", x, ok)
	}
	if x, ok := heap.New(rising).Least(); x != 0 || ok {
		t.Errorf("Least of nothing: %d, %v", x, ok)
	}
}

// Example 1: those with one first part come in any order, but all of them come, behind those with a less one.
func TestPairsByTheirFirstPart(t *testing.T) {
	got := bothOf(t, byKey, pair{2, 1}, pair{1, 2}, pair{2, 3}, pair{1, 4}, pair{0, 5}).drain()
	if got[0] != (pair{0, 5}) {
		t.Errorf("the first: %v", got[0])
	}
	for i, want := range []pair{{1, 2}, {1, 4}} {
		if !slices.Contains(got[1:3], want) {
			t.Errorf("%d: %v is not among %v", i, want, got[1:3])
		}
	}
	for i, want := range []pair{{2, 1}, {2, 3}} {
		if !slices.Contains(got[3:], want) {
			t.Errorf("%d: %v is not among %v", i, want, got[3:])
		}
	}
}

// Example 2.
func TestLenBehindAPopOfNothing(t *testing.T) {
	for _, h := range []*heap.Heap[int]{heap.New(rising), heap.Of(rising), heap.New[int](nil)} {
		for range 3 {
			h.Pop()
			h.Least()
			if h.Len() != 0 {
				t.Errorf("Len: %d", h.Len())
			}
		}
	}
}

// Example 3.
func TestAThingPushedTwice(t *testing.T) {
	h := heap.New(byText)
	h.Push("ab")
	h.Push("ab")
	if got := popped(h); !slices.Equal(got, []string{"ab", "ab"}) {
		t.Errorf("of a thing twice: %q", got)
	}
	one := &pair{1, 1}
	p := heap.Of(byPointed, one)
	p.Push(one)
	if got := popped(p); len(got) != 2 || got[0] != one || got[1] != one {
		t.Errorf("of a pointer twice: %v", got)
	}
}

// P8.1

func TestNewIsEmpty(t *testing.T) {
	checkNew(t, rising, 1)
	checkNew(t, byText, "ab")
	checkNew(t, byKey, pair{1, 1})
	checkNew(t, byPointed, &pair{1, 1})
	checkNew(t, nil, 1.5)
}

// checkNew holds a new heap, and what it is when one was pushed.
func checkNew[T comparable](t *testing.T, less func(a, b T) bool, one T) {
	t.Helper()
	x := both[T]{t, heap.New(less), bag[T]{less: less}}
	x.len()
	x.leastAndPop()
	x.push(one)
	x.drain()
}

func TestOfHasTheThings(t *testing.T) {
	for n := range 40 {
		l := mixed(n)
		x := bothOf(t, rising, l...)
		x.len()
		slices.Sort(l)
		if got := x.drain(); !slices.Equal(got, l) {
			t.Errorf("Of %d things: %v", n, got)
		}
	}
}

func TestPushPutsOneIn(t *testing.T) {
	for l := range listsOf(5, 3) {
		x := bothOf(t, rising)
		for _, n := range l {
			x.push(n)
			x.least()
		}
		x.drain()
	}
}

func TestPushBehindOf(t *testing.T) {
	for n := range 20 {
		for more := range 20 {
			x := bothOf(t, rising, mixed(n)...)
			for i := range more {
				x.push(3 * i % 11)
			}
			x.drain()
		}
	}
}

// P8.2

// Every list of up to seven small numbers, in whatever way it came in.
func TestPopOfEveryShortList(t *testing.T) {
	for n := range 8 {
		for l := range listsOf(n, 4) {
			want := slices.Sorted(slices.Values(l))
			for h := range waysIn(rising, l) {
				if got := popped(h); !slices.Equal(got, want) {
					t.Fatalf("of %v: %v", l, got)
				}
			}
			slices.Reverse(want)
			for h := range waysIn(falling, l) {
				if got := popped(h); !slices.Equal(got, want) {
					t.Fatalf("of %v, by falling order: %v", l, got)
				}
			}
		}
	}
}

// Every row of up to seven moves: a Pop, a Least, or a Push of one of three numbers.
func TestEveryShortRowOfMoves(t *testing.T) {
	const aPop, aLeast = 3, 4
	for l := range listsOf(7, 5) {
		x := bothOf(t, rising)
		for _, move := range l {
			switch move {
			case aPop:
				x.pop()
			case aLeast:
				x.least()
			default:
				x.push(move)
			}
		}
		x.drain()
	}
}

// moveAbout pushes what next answers, pops and asks, in any order.
func moveAbout[T comparable](t *testing.T, less func(a, b T) bool, next func(r *rand.Rand) T) {
	t.Helper()
	for seed := range int64(200) {
		r := rand.New(rand.NewSource(seed))
		x := bothOf(t, less)
		if seed%2 == 0 {
			x = bothOf(t, less, next(r), next(r), next(r))
		}
		pushes := 1 + r.Intn(6)
		for range r.Intn(150) {
			switch n := r.Intn(pushes + 3); n {
			case 0:
				x.pop()
			case 1:
				x.least()
			case 2:
				x.leastAndPop()
			default:
				x.push(next(r))
			}
		}
		x.drain()
	}
}

func TestMovesInAnyOrder(t *testing.T) {
	small := func(r *rand.Rand) int { return r.Intn(9) }
	great := func(r *rand.Rand) int { return r.Int() - r.Int() }
	moveAbout(t, rising, small)
	moveAbout(t, falling, small)
	moveAbout(t, rising, great)
	moveAbout(t, byTens, func(r *rand.Rand) int { return r.Intn(50) })
	text := func(r *rand.Rand) string { return strings.Repeat(string(rune('a'+r.Intn(3))), r.Intn(4)) }
	moveAbout(t, byText, text)
	moveAbout(t, byLength, text)
	moveAbout(t, byFloat, (*rand.Rand).NormFloat64)
	number := 0
	numbered := func(r *rand.Rand) pair {
		number++
		return pair{r.Intn(4), number}
	}
	moveAbout(t, byKey, numbered)
	moveAbout(t, nothingLess, numbered)
	moveAbout(t, nil, numbered)
	moveAbout(t, byPointed, func(r *rand.Rand) *pair { return &pair{key: r.Intn(4)} })
}

// Least is the one that the next Pop takes, where several are as good, too.
func TestLeastIsWhatPopTakes(t *testing.T) {
	for _, less := range []func(a, b pair) bool{byKey, nothingLess, nil} {
		for n := range 60 {
			var l []pair
			for i := range n {
				l = append(l, pair{i % 3, i})
			}
			bothOf(t, less, l...).drain()
			x := bothOf(t, less)
			x.push(l...)
			x.drain()
		}
	}
}

// A heap that was emptied goes on as a new one.
func TestPushBehindTheLastPop(t *testing.T) {
	x := bothOf(t, rising, 5, 4)
	for round := range 5 {
		x.drain()
		x.push(round, 2, round-3, 2)
		x.leastAndPop()
	}
	x.drain()
}

// P8.3

func TestPoppedOneBehindTheOther(t *testing.T) {
	for _, n := range []int{0, 1, 2, 3, 1000, 1 << 16} {
		for name, l := range longLists(n) {
			want := slices.Sorted(slices.Values(l))
			for h := range waysIn(rising, l) {
				if got := popped(h); !slices.Equal(got, want) {
					t.Errorf("%d numbers, %s: what is popped isn't the sorted list", n, name)
				}
				if x, ok := h.Pop(); x != 0 || ok || h.Len() != 0 {
					t.Errorf("%d numbers, %s: behind all: %d, %v", n, name, x, ok)
				}
			}
		}
	}
}

// Of things that stand for one another each comes out as often as it went in.
func TestThingsThatStandForOneAnother(t *testing.T) {
	r := rand.New(rand.NewSource(3))
	for _, keys := range []int{1, 2, 3, 50} {
		var l []pair
		for i := range 3000 {
			l = append(l, pair{r.Intn(keys), i / 2}) // some of them twice
		}
		for h := range waysIn(byKey, l) {
			got := popped(h)
			if !slices.IsSortedFunc(got, func(a, b pair) int { return a.key - b.key }) {
				t.Errorf("%d keys: one is less than the one ahead", keys)
			}
			if !sameThings(got, l) {
				t.Errorf("%d keys: other things came out than went in", keys)
			}
		}
	}
}

// With a nil less all things stand for one another.
func TestNilLess(t *testing.T) {
	for _, l := range longLists(300) {
		for h := range waysIn(nil, l) {
			if got := popped(h); !sameThings(got, l) {
				t.Errorf("of %v: %v", l, got)
			}
		}
	}
	x := bothOf[string](t, nil, "b", "a")
	x.push("c", "a")
	x.drain()
}

// sameThings tells whether each thing is as often in a as in b.
func sameThings[T comparable](a, b []T) bool {
	times := map[T]int{}
	for _, x := range a {
		times[x]++
	}
	for _, x := range b {
		times[x]--
	}
	for _, n := range times {
		if n != 0 {
			return false
		}
	}
	return true
}
