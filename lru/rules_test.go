package lru_test

import (
	"math"
	"runtime"
	"slices"
	"testing"
	"weak"

	"tessera/lru"
)

// R1: keys that can't be held against one another panic nowhere, and change nothing for the others.
func TestKeysThatCannotBeAsked(t *testing.T) {
	type boxed struct {
		number int
		any    any
	}
	wild := []any{
		[]int{1}, []int(nil), map[string]int{}, func() {}, [1][]int{}, boxed{1, []int{2}}, [2]any{1, []string{"a"}},
		struct{ f func() }{}, boxed{2, boxed{3, map[int]int{}}}, []any{},
	}
	for c := range 4 {
		x := begun[any, int](t, c)
		for round, k := range wild {
			x.Put(round, round)
			want := x.Keys()
			checkWild(t, x, k, want)
		}
		y := begun[boxed, int](t, c)
		for round, k := range wild {
			y.Put(boxed{round, "a"}, round)
			checkWild(t, y, boxed{round, k}, y.Keys())
			checkWild(t, y, boxed{any: k}, y.Keys())
		}
	}
}

// checkWild gets and puts k, and asks whether want is kept still.
func checkWild[K comparable](t *testing.T, x *lru.Cache[K, int], k K, want []K) {
	t.Helper()
	for range 2 {
		if v, ok := x.Get(k); v != 0 || ok {
			t.Fatalf("Get: %d, %v", v, ok)
		}
		x.Put(k, 7)
		if got := x.Keys(); !slices.Equal(got, want) || x.Len() != len(want) {
			t.Fatalf("Keys: %v, want %v", got, want)
		}
	}
}

// R1, W5: of keys that are unlike themselves nothing is promised but that calls end, and that there are not too many entries.
func TestKeysUnlikeThemselves(t *testing.T) {
	none := math.NaN()
	for c := range 4 {
		x := begun[float64, int](t, c)
		y := begun[any, int](t, c)
		z := begun[[2]float64, int](t, c)
		for i := range 100 {
			checkUnlike(t, c, x, none, float64(i))
			checkUnlike(t, c, y, any(none), any(i))
			checkUnlike(t, c, z, [2]float64{1, none}, [2]float64{1, float64(i)})
		}
	}
}

// checkUnlike moves a cache of c entries about by a key that is unlike itself and by one that is not.
func checkUnlike[K comparable](t *testing.T, c int, x *lru.Cache[K, int], none, k K) {
	t.Helper()
	x.Put(none, 1)
	x.Get(none)
	x.Put(k, 2)
	if v, ok := x.Get(k); ok != (c > 0) || ok && v != 2 {
		t.Fatalf("c %d: Get(%v): %d, %v", c, k, v, ok)
	}
	x.Put(none, 3)
	if x.Len() > c || len(x.Keys()) != x.Len() {
		t.Fatalf("c %d: Len %d, Keys %v", c, x.Len(), x.Keys())
	}
}

// R2: what Keys answers is new memory each time, its spare room too.
func TestKeysIsNewMemory(t *testing.T) {
	for c := range 20 {
		x := bothOf[int, int](t, c)
		for i := range c + 2 {
			one, two := x.cache.Keys(), x.cache.Keys()
			writeOver(one, -1)
			if slices.Contains(two[:cap(two)], -1) {
				t.Fatalf("c %d: two answers share memory", c)
			}
			x.ask()
			x.put(i, i)
			x.ask()
			if slices.ContainsFunc(one[:cap(one)], func(k int) bool { return k != -1 }) {
				t.Fatalf("c %d: an answer was written to: %v", c, one[:cap(one)])
			}
		}
		x.askValues()
	}
}

// writeOver writes k over all of l, its spare room too.
func writeOver(l []int, k int) {
	l = l[:cap(l)]
	for i := range l {
		l[i] = k
	}
}

// R3: beside a false there is the type's zero value, also of what was kept, and of what is of another key.
func TestBesideFalse(t *testing.T) {
	for c := range 3 {
		checkNone(t, c, "a", func(v string) bool { return v == "" })
		checkNone(t, c, []int{1}, func(v []int) bool { return v == nil })
		checkNone(t, c, map[int]int{1: 2}, func(v map[int]int) bool { return v == nil })
		checkNone(t, c, &asked{"a", 1}, func(v *asked) bool { return v == nil })
		checkNone(t, c, asked{"a", 1}, func(v asked) bool { return v == asked{} })
		checkNone(t, c, any(1), func(v any) bool { return v == nil })
		checkNone(t, c, func() {}, func(v func()) bool { return v == nil })
	}
}

// checkNone holds what a cache of c entries, that keeps v for up to c keys, answers of keys that aren't kept.
func checkNone[V any](t *testing.T, c int, v V, zero func(V) bool) {
	t.Helper()
	x := begun[int, V](t, c)
	for i := range c + 3 {
		for k := -1; k <= i-c; k++ {
			if got, ok := x.Get(k - 1); ok || !zero(got) {
				t.Errorf("c %d: Get(%d): %v, %v", c, k-1, got, ok)
			}
		}
		if got, ok := x.Get(i); ok || !zero(got) {
			t.Errorf("c %d: Get(%d): %v, %v", c, i, got, ok)
		}
		x.Put(i, v)
	}
}

// R3: a Get that is false has changed nothing that a later call tells: two caches, one of which is asked in vain between, go alike.
func TestAFalseGetChangesNothing(t *testing.T) {
	for c := range 4 {
		for l := range listsOf(4, 8) {
			x, y := bothOf[int, int](t, c), begun[int, int](t, c)
			for at, move := range l {
				for k := range 8 {
					if !slices.Contains(x.cache.Keys(), k) {
						x.get(k)
					}
				}
				if move < 4 {
					x.put(move, at)
					y.Put(move, at)
				} else {
					x.get(move - 4)
					y.Get(move - 4)
				}
				if one, two := x.cache.Keys(), y.Keys(); !slices.Equal(one, two) {
					t.Fatalf("c %d, %v: %v, want %v", c, l, one, two)
				}
			}
			x.ask()
		}
	}
}

// R3: a New that is refused leaves other caches as they are; two caches don't hang on one another.
func TestTwoCaches(t *testing.T) {
	one, two := bothOf[string, int](t, 2), bothOf[string, int](t, 3)
	for i, k := range []string{"a", "b", "c", "a", "d", "d", "b"} {
		one.put(k, i)
		lru.New[string, int](-1)
		two.get(k)
		two.put(k+k, -i)
		one.get("a")
		two.put("a", i)
		one.ask()
		two.ask()
	}
	one.askValues("a", "b", "c", "d")
	two.askValues("a", "b", "aa", "bb", "cc", "dd")
}

// R4: what a cache answers hangs on the moves alone.
func TestTheSameAgain(t *testing.T) {
	moved := func() []*int {
		var l []*int
		for i := range 50 {
			l = append(l, &i)
		}
		x := begun[*int, int](t, 20)
		for i := range 400 {
			x.Put(l[i*i%47], i)
			x.Get(l[i*7%50])
		}
		return x.Keys()
	}
	want := moved()
	for range 5 {
		same := func(a, b *int) bool { return *a == *b }
		if got := moved(); !slices.EqualFunc(got, want, same) {
			t.Error("moved alike, two caches keep other keys")
		}
	}
}

// What went, and what was put over, is kept no more; what is kept is.
func TestWhatWentIsNotKept(t *testing.T) {
	const c = 5
	x := begun[*asked, *asked](t, c)
	went, stay := putMany(x, 40, c)
	for range 20 {
		runtime.GC()
		went = slices.DeleteFunc(went, isGone)
		if len(went) == 0 {
			break
		}
	}
	if len(went) > 0 {
		t.Errorf("%d keys and values that went are still kept", len(went))
	}
	if slices.ContainsFunc(stay, isGone) {
		t.Error("what should be kept is gone")
	}
	runtime.KeepAlive(x)
}

// isGone tells whether nothing holds what p points at.
func isGone(p weak.Pointer[asked]) bool { return p.Value() == nil }

// putMany puts n keys, each twice, and answers the keys and values so that they aren't held: those that went, and those of the last c.
func putMany(x *lru.Cache[*asked, *asked], n, c int) (went, stay []weak.Pointer[asked]) {
	for i := range n {
		k, first, v := &asked{rank: i}, &asked{"first", i}, &asked{"v", i}
		x.Put(k, first)
		x.Get(k)
		x.Put(k, v)
		went = append(went, weak.Make(first))
		if i < n-c {
			went = append(went, weak.Make(k), weak.Make(v))
		} else {
			stay = append(stay, weak.Make(k), weak.Make(v))
		}
	}
	return went, stay
}
