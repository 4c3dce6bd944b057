package heap_test

import (
	"math/rand"
	"slices"
	"testing"

	"tessera/heap"
)

// pair is a thing whose order goes by its first part alone.
type pair struct{ key, number int }

func rising(a, b int) bool       { return a < b }
func falling(a, b int) bool      { return a > b }
func byText(a, b string) bool    { return a < b }
func byLength(a, b string) bool  { return len(a) < len(b) }
func byKey(a, b pair) bool       { return a.key < b.key }
func byTens(a, b int) bool       { return a/10 < b/10 }
func byPointed(a, b *pair) bool  { return a.key < b.key }
func byFloat(a, b float64) bool  { return a < b }
func nothingLess(a, b pair) bool { return false }

// bag is the chapter word by word: things, each of which is held against all the others.
type bag[T comparable] struct {
	less   func(a, b T) bool // nil: nothing is less than anything
	things []T
}

// least tells whether x is one of the things, to which none of the others is less.
func (b *bag[T]) least(x T) bool {
	lessThanX := func(y T) bool { return b.less != nil && b.less(y, x) }
	return slices.Contains(b.things, x) && !slices.ContainsFunc(b.things, lessThanX)
}

// take takes x out, once.
func (b *bag[T]) take(x T) {
	at := slices.Index(b.things, x)
	b.things = slices.Delete(b.things, at, at+1)
}

// both is a heap and a bag that are moved alike.
type both[T comparable] struct {
	t    *testing.T
	heap *heap.Heap[T]
	bag  bag[T]
}

// bothOf starts with l's things.
func bothOf[T comparable](t *testing.T, less func(a, b T) bool, l ...T) *both[T] {
	return &both[T]{t, heap.Of(less, l...), bag[T]{less, slices.Clone(l)}}
}

// push is P8.1.
func (x *both[T]) push(l ...T) {
	x.t.Helper()
	for _, thing := range l {
		x.heap.Push(thing)
		x.bag.things = append(x.bag.things, thing)
		x.len()
	}
}

// len is P8.2 of Len.
func (x *both[T]) len() {
	x.t.Helper()
	if n := x.heap.Len(); n != len(x.bag.things) {
		x.t.Fatalf("Len: %d, want %d", n, len(x.bag.things))
	}
}

// least is P8.2 of Least, and answers what it answered.
func (x *both[T]) least() (T, bool) {
	x.t.Helper()
	thing, ok := x.heap.Least()
	x.mayBe("Least", thing, ok)
	x.len()
	return thing, ok
}

// pop is P8.2 of Pop, and answers what it answered.
func (x *both[T]) pop() (T, bool) {
	x.t.Helper()
	thing, ok := x.heap.Pop()
	x.mayBe("Pop", thing, ok)
	if ok {
		x.bag.take(thing)
	}
	x.len()
	return thing, ok
}

// leastAndPop is P8.2 of the two together.
func (x *both[T]) leastAndPop() (T, bool) {
	x.t.Helper()
	thing, ok := x.least()
	if again, fine := x.least(); again != thing || fine != ok {
		x.t.Fatalf("Least: %v, %v, then %v, %v", thing, ok, again, fine)
	}
	if popped, fine := x.pop(); popped != thing || fine != ok {
		x.t.Fatalf("Pop: %v, %v, where Least was %v, %v", popped, fine, thing, ok)
	}
	return thing, ok
}

// mayBe tells whether the call may answer thing and ok of the things there are.
func (x *both[T]) mayBe(call string, thing T, ok bool) {
	x.t.Helper()
	var none T
	if len(x.bag.things) == 0 && (thing != none || ok) {
		x.t.Fatalf("%s of nothing: %v, %v", call, thing, ok)
	}
	if len(x.bag.things) > 0 && (!ok || !x.bag.least(thing)) {
		x.t.Fatalf("%s of %v: %v, %v", call, x.bag.things, thing, ok)
	}
}

// drain takes all out, one behind the other, and once more.
func (x *both[T]) drain() []T {
	x.t.Helper()
	var l []T
	for range len(x.bag.things) {
		thing, _ := x.leastAndPop()
		l = append(l, thing)
	}
	x.leastAndPop()
	return l
}

// popped answers all of h's things, one behind the other.
func popped[T any](h *heap.Heap[T]) []T {
	var l []T
	for range h.Len() {
		x, ok := h.Pop()
		if !ok {
			break
		}
		l = append(l, x)
	}
	return l
}

// waysIn hands out heaps of l's things: the one that Of makes, those into which some are pushed behind Of, and the one into which all are.
func waysIn[T any](less func(a, b T) bool, l []T) func(yield func(*heap.Heap[T]) bool) {
	return func(yield func(*heap.Heap[T]) bool) {
		for _, pushed := range []int{0, len(l) / 2, max(0, len(l)-1)} {
			if !yield(pushAll(heap.Of(less, l[pushed:]...), l[:pushed])) {
				return
			}
		}
		yield(pushAll(heap.New(less), l))
	}
}

// pushAll answers h, into which l's things were pushed.
func pushAll[T any](h *heap.Heap[T], l []T) *heap.Heap[T] {
	for _, x := range l {
		h.Push(x)
	}
	return h
}

// mixed answers the numbers from 0 to n - 1 in some order.
func mixed(n int) []int { return rand.New(rand.NewSource(int64(n))).Perm(n) }

// listsOf hands out each list of n numbers below top.
func listsOf(n, top int) func(yield func([]int) bool) {
	return func(yield func([]int) bool) {
		l := make([]int, n)
		for {
			if !yield(slices.Clone(l)) {
				return
			}
			at := 0
			for ; at < n && l[at] == top-1; at++ {
				l[at] = 0
			}
			if at == n {
				return
			}
			l[at]++
		}
	}
}

// longLists answers lists of n numbers: all alike, rising, falling, to and fro, and mixed, of few numbers and of many.
func longLists(n int) map[string][]int {
	r := rand.New(rand.NewSource(2))
	lists := map[string][]int{}
	for i := range n {
		lists["alike"] = append(lists["alike"], 7)
		lists["rising"] = append(lists["rising"], i)
		lists["falling"] = append(lists["falling"], -i)
		lists["to and fro"] = append(lists["to and fro"], i*(1-i%2*2))
		lists["few"] = append(lists["few"], r.Intn(5))
		lists["many"] = append(lists["many"], r.Int()-r.Int())
	}
	return lists
}
