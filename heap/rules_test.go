package heap_test

import (
	"math"
	"math/rand"
	"runtime"
	"slices"
	"testing"
	"weak"

	"tessera/heap"
)

// wildOrders answers orders that are none.
func wildOrders() map[string]func(a, b int) bool {
	r := rand.New(rand.NewSource(5))
	asked := 0
	return map[string]func(a, b int) bool{
		"always":        func(a, b int) bool { return true },
		"not above":     func(a, b int) bool { return a <= b },
		"another":       func(a, b int) bool { return a != b },
		"round":         func(a, b int) bool { return (b-a)%3 == 1 || (b-a)%3 == -2 },
		"near":          func(a, b int) bool { return a < b && b < a+3 },
		"by chance":     func(a, b int) bool { return r.Intn(2) == 0 },
		"in turn":       func(a, b int) bool { asked++; return asked%2 == 0 },
		"panics":        func(a, b int) bool { panic("no order") },
		"panics of nil": func(a, b int) bool { panic(nil) },
		"panics by an index": func(a, b int) bool {
			return []int{1, 2, 3}[a] < []int{1, 2, 3}[b]
		},
		"panics at times": func(a, b int) bool {
			asked++
			if asked%3 == 0 {
				panic(asked)
			}
			return a < b
		},
	}
}

// R1: whatever less is, no call panics, and each ends.
func TestWildOrdersEnd(t *testing.T) {
	for _, less := range wildOrders() {
		for n := range 40 {
			r := rand.New(rand.NewSource(int64(n)))
			h := heap.Of(less, mixed(n)...)
			for range 200 {
				h.Push(r.Intn(9) - 4)
				h.Least()
				if r.Intn(2) == 0 {
					h.Pop()
				}
				h.Len()
			}
			for range 300 {
				h.Pop()
			}
		}
	}
}

// R1: numbers of which some are no numbers have no order.
func TestNumbersThatAreNone(t *testing.T) {
	h := heap.Of(byFloat, math.NaN(), 1, math.NaN(), math.Inf(-1), 0, math.NaN())
	for i := range 100 {
		h.Push(math.NaN())
		h.Push(float64(i))
		h.Least()
		h.Pop()
	}
	for range 300 {
		h.Pop()
	}
}

// R1: a less that calls the heap again isn't asked within itself for ever, and no call panics.
func TestLessThatCallsTheHeap(t *testing.T) {
	for _, move := range []func(h *heap.Heap[int]){
		func(h *heap.Heap[int]) { h.Push(1) },
		func(h *heap.Heap[int]) { h.Pop() },
		func(h *heap.Heap[int]) { h.Pop(); h.Pop(); h.Pop() },
		func(h *heap.Heap[int]) { h.Push(h.Len()); h.Least(); h.Pop() },
		func(h *heap.Heap[int]) { h.Pop(); h.Push(h.Len()) },
		func(h *heap.Heap[int]) { h.Push(2); panic("amid") },
	} {
		for n := range 40 {
			callAgain(move, mixed(n))
		}
	}
}

// callAgain moves a heap of l's things about, the less of which moves it, too.
func callAgain(move func(h *heap.Heap[int]), l []int) {
	var h *heap.Heap[int]
	less := func(a, b int) bool {
		if h != nil { // within Of nobody has the heap as yet
			move(h)
		}
		return a < b
	}
	for pushes := range 4 {
		h = heap.Of(less, l...)
		for i := range 10 {
			for range pushes {
				h.Push(3 * i % 11)
			}
			h.Least()
			h.Pop()
		}
		for range 100 {
			h.Pop()
		}
		h = nil
	}
}

// A less that only looks at the heap is as good as another one.
func TestLessThatLooksAtTheHeap(t *testing.T) {
	for _, l := range longLists(500) {
		var h *heap.Heap[int]
		less := func(a, b int) bool {
			h.Len()
			h.Least()
			return a < b
		}
		h = heap.New(less)
		for _, x := range l {
			h.Push(x)
		}
		if got := popped(h); !slices.IsSorted(got) || !sameThings(got, l) {
			t.Errorf("of %v: %v", l, got)
		}
	}
}

// R2: the list that is handed in stays as it was, its spare room too.
func TestTheListStaysAsItWas(t *testing.T) {
	for n := range 20 {
		whole := mixed(n + 30)
		before := slices.Clone(whole)
		h := heap.Of(rising, whole[:n]...)
		for i := range 40 {
			h.Push(-i)
		}
		popped(h)
		h.Push(1)
		if !slices.Equal(whole, before) {
			t.Fatalf("the list was changed: %v, was %v", whole, before)
		}
	}
}

// R2: nothing of the list is kept: written over afterwards, it changes nothing in the heap.
func TestTheListIsNotKept(t *testing.T) {
	for n := range 20 {
		whole := mixed(n + 30)
		want := slices.Sorted(slices.Values(whole[:n]))
		h := heap.Of(rising, whole[:n]...)
		for i := range whole {
			whole[i] = -7
		}
		if got := popped(h); !slices.Equal(got, want) {
			t.Errorf("of a list that was written over: %v, want %v", got, want)
		}
	}
}

// R5: the room behind a list isn't read.
func TestSpareRoomIsNotRead(t *testing.T) {
	l := []int{3, 1, 2, -1, -2}
	for n := range l {
		x := bothOf(t, rising, l[:n]...)
		x.len()
		x.push(2)
		x.drain()
	}
}

// R3: beside a false there is the type's zero value, also where things were popped before.
func TestBesideFalse(t *testing.T) {
	for _, n := range []int{0, 1, 2, 9} {
		texts, structs, pointers := heap.New(byText), heap.New(byKey), heap.New(byPointed)
		lists := heap.New(func(a, b []int) bool { return len(a) < len(b) })
		for i := range n {
			texts.Push("ab")
			structs.Push(pair{i, 1})
			pointers.Push(&pair{i, 1})
			lists.Push([]int{i})
		}
		popped(texts)
		popped(structs)
		popped(pointers)
		popped(lists)
		checkNone(t, texts, func(x string) bool { return x == "" })
		checkNone(t, structs, func(x pair) bool { return x == (pair{}) })
		checkNone(t, pointers, func(x *pair) bool { return x == nil })
		checkNone(t, lists, func(x []int) bool { return x == nil })
	}
}

// checkNone holds what h, which is empty, answers.
func checkNone[T any](t *testing.T, h *heap.Heap[T], zero func(T) bool) {
	t.Helper()
	for range 2 {
		if x, ok := h.Least(); ok || !zero(x) {
			t.Errorf("Least of nothing: %v, %v", x, ok)
		}
		if x, ok := h.Pop(); ok || !zero(x) || h.Len() != 0 {
			t.Errorf("Pop of nothing: %v, %v, Len %d", x, ok, h.Len())
		}
	}
}

// R3: a Pop of nothing has changed nothing.
func TestAPopOfNothingChangesNothing(t *testing.T) {
	for n := range 10 {
		x := bothOf(t, rising, mixed(n)...)
		for round := range 4 {
			x.drain()
			for range round {
				x.leastAndPop()
			}
			x.push(4, -1, 3, -1)
		}
	}
}

// R4: nil and empty lists mean the same.
func TestNoListAndAnEmptyOne(t *testing.T) {
	for _, l := range [][]int{nil, {}, mixed(3)[:0]} {
		x := bothOf(t, rising, l...)
		x.len()
		x.leastAndPop()
		x.push(2, 1, 3)
		x.drain()
		if n := heap.Of(nil, l...).Len(); n != 0 {
			t.Errorf("Of no things, by a nil less: Len %d", n)
		}
	}
}

// Two heaps of one list don't hang on one another, and each has its own order.
func TestTwoHeaps(t *testing.T) {
	l := []int{3, 1, 2, 5, 4}
	one, two := bothOf(t, rising, l...), bothOf(t, falling, l...)
	one.push(0)
	two.pop()
	two.push(9, 9, 9, 9)
	if x, _ := one.leastAndPop(); x != 0 {
		t.Errorf("the first heap: %d", x)
	}
	if x, _ := two.leastAndPop(); x != 9 {
		t.Errorf("the second heap: %d", x)
	}
	one.drain()
	two.drain()
}

// R4: where several are as good, too, what comes out hangs on what is given alone.
func TestTheSameAgain(t *testing.T) {
	var l []pair
	for i := range 200 {
		l = append(l, pair{i % 3, i})
	}
	want := popped(heap.Of(byKey, l...))
	roomy := append(make([]pair, 0, 1000), l...)
	if got := popped(heap.Of(byKey, roomy...)); !slices.Equal(got, want) {
		t.Error("another list with the same things gave another order")
	}
}

// What was popped is kept no more.
func TestWhatIsPoppedIsNotKept(t *testing.T) {
	h := heap.New(byPointed)
	weakly := pushAndPop(h, 20)
	h.Push(&pair{})
	left := weakly
	for range 20 {
		runtime.GC()
		left = slices.DeleteFunc(left, func(p weak.Pointer[pair]) bool { return p.Value() == nil })
		if len(left) == 0 {
			break
		}
	}
	if len(left) > 0 {
		t.Errorf("%d things that were popped are still kept", len(left))
	}
	runtime.KeepAlive(h)
}

// pushAndPop pushes n things, pops them, and answers them so that they aren't held.
func pushAndPop(h *heap.Heap[*pair], n int) []weak.Pointer[pair] {
	var l []weak.Pointer[pair]
	for i := range n {
		x := &pair{key: 7 * i % n}
		l = append(l, weak.Make(x))
		h.Push(x)
	}
	popped(h)
	return l
}
