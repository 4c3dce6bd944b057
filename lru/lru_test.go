package lru_test

import (
	"math"
	"math/rand"
	"slices"
	"strings"
	"testing"

	"tessera/api"
	"tessera/lru"
)

// The runs of the chapter.
func TestRuns(t *testing.T) {
	x := begun[string, int](t, 2)
	x.Put("a", 1)
	x.Put("b", 2)
	if v, ok := x.Get("a"); v != 1 || !ok {
		t.Errorf("Get a: %d, %v", v, ok)
	}
	x.Put("c", 3)
	if l := x.Keys(); !slices.Equal(l, []string{"c", "a"}) {
		t.Errorf("Keys: %q", l)
	}
	if v, ok := x.Get("b"); v != 0 || ok {
		t.Errorf("Get b: %d, %v", v, ok)
	}
	x = begun[string, int](t, 2)
	x.Put("a", 1)
	x.Put("a", 2)
	if v, ok := x.Get("a"); v != 2 || !ok || x.Len() != 1 {
		t.Errorf("a put twice: %d, %v, Len %d", v, ok, x.Len())
	}
	for _, c := range []int{-1, 4097} {
		if x, why := lru.New[string, int](c); x != nil || why != api.ErrArg {
			t.Errorf("New(%d): %v, %v", c, x, why)
		}
	}
}

// Example 1.
func TestACacheOfNoEntries(t *testing.T) {
	x := bothOf[string, int](t, 0)
	x.get("a")
	for i := range 5 {
		x.put("a", i)
		x.ask()
		x.get("a")
		x.get("b")
		x.put("", i)
		x.get("")
		x.ask()
	}
	if n := x.cache.Len(); n != 0 {
		t.Errorf("Len: %d", n)
	}
}

// Example 2: also where the one that isn't kept was, or is the type's zero value.
func TestGetOfWhatIsNotKeptChangesNothing(t *testing.T) {
	for c := range 5 {
		x := bothOf[string, int](t, c)
		for i, k := range []string{"a", "b", "c", "d", "e", "b"} {
			x.put(k, i+1)
			want := x.cache.Keys()
			for _, other := range []string{"", "z", "a", "b", "c", "d", "e"} {
				if slices.Contains(want, other) {
					continue
				}
				x.get(other)
				if got := x.cache.Keys(); !slices.Equal(got, want) {
					t.Fatalf("c %d: behind Get %q: %q, want %q", c, other, got, want)
				}
				x.ask()
			}
		}
	}
}

// Example 3: in a full cache and in one that is not, whichever key it is.
func TestPutOfAKeyThatIsKept(t *testing.T) {
	for c := 1; c < 7; c++ {
		for kept := 1; kept <= c; kept++ {
			for again := range kept {
				x := bothOf[int, int](t, c)
				for k := range kept {
					x.put(k, k)
				}
				x.put(again, -1)
				x.ask()
				if x.cache.Len() != kept || x.cache.Keys()[0] != again {
					t.Fatalf("c %d: %d of %d keys put again: %v", c, again, kept, x.cache.Keys())
				}
				x.askValues()
			}
		}
	}
}

// P11.1

func TestNewRefuses(t *testing.T) {
	bad := []int{
		-1, -2, -api.MaxC, -api.MaxC - 1, math.MinInt32, math.MinInt64, math.MinInt64 + 1, -1 << 32, -1<<32 + 1,
		api.MaxC + 1, api.MaxC + 2, 2 * api.MaxC, 1 << 16, math.MaxInt32, 1 << 31, 1 << 32, 1<<32 + 1, math.MaxInt64 - 1, math.MaxInt64,
	}
	for _, c := range bad {
		checkRefused[string, int](t, c)
		checkRefused[int, []int](t, c)
		checkRefused[[2]int, *int](t, c)
		checkRefused[any, any](t, c)
	}
}

// checkRefused holds that New(c) is ErrArg, and that there is no cache beside it.
func checkRefused[K comparable, V any](t *testing.T, c int) {
	t.Helper()
	if x, why := lru.New[K, V](c); x != nil || why != api.ErrArg {
		t.Errorf("New(%d): %v, %v", c, x, why)
	}
}

func TestNewIsEmptyAndOfItsEntries(t *testing.T) {
	for c := range 70 {
		checkNew(t, c)
	}
	for _, c := range []int{255, 256, 257, 1 << 10, 1 << 11, api.MaxC - 1, api.MaxC} {
		checkNew(t, c)
	}
}

// checkNew holds a new cache of c entries, filled up and beyond.
func checkNew(t *testing.T, c int) {
	t.Helper()
	x := begun[int, int](t, c)
	if v, ok := x.Get(0); v != 0 || ok || x.Len() != 0 || len(x.Keys()) != 0 {
		t.Fatalf("New(%d): Get(0) %d, %v, Len %d, Keys %v", c, v, ok, x.Len(), x.Keys())
	}
	for i := range c + 3 {
		x.Put(i, -i)
		if want := min(i+1, c); x.Len() != want {
			t.Fatalf("New(%d): Len behind %d Puts: %d", c, i+1, x.Len())
		}
	}
	l := x.Keys()
	if len(l) != c {
		t.Fatalf("New(%d): %d keys", c, len(l))
	}
	for at, k := range l {
		if k != c+2-at {
			t.Fatalf("New(%d): the key %d at %d", c, k, at)
		}
	}
	for i := range c + 3 {
		if v, ok := x.Get(i); ok != (i >= 3) || ok && v != -i || !ok && v != 0 {
			t.Fatalf("New(%d): Get(%d): %d, %v", c, i, v, ok)
		}
	}
}

// P11.2, P11.3, P11.4

// Every row of five moves, each a Get or a Put of one of four keys, in a new cache and in one that Puts have filled.
func TestEveryShortRowOfMoves(t *testing.T) {
	const keys = 4
	for c := range keys + 1 {
		for l := range listsOf(5, 2*keys) {
			for _, filled := range []int{0, c} {
				x := bothOf[int, int](t, c)
				for k := range filled {
					x.put(k, -1)
				}
				for at, move := range l {
					if move < keys {
						x.put(move, at+1)
					} else {
						x.get(move - keys)
					}
					x.ask()
				}
				x.askValues(0, 1, 2, 3)
			}
		}
	}
}

// Whichever key a Get used, it goes last.
func TestWhatWasUsedStays(t *testing.T) {
	for c := 1; c < 9; c++ {
		for used := range c {
			x := bothOf[int, int](t, c)
			for k := range c {
				x.put(k, k)
			}
			x.get(used)
			x.ask()
			for more := range c - 1 {
				x.put(100+more, more)
				x.ask()
				if l := x.cache.Keys(); l[more+1] != used {
					t.Fatalf("c %d: %d was used: %v", c, used, l)
				}
			}
			x.put(200, 0)
			x.ask()
			if _, ok := x.cache.Get(used); ok {
				t.Fatalf("c %d: %d is kept behind %d Puts", c, used, c)
			}
		}
	}
}

// What would have gone is used, by Get or by Put, time and again.
func TestUseOfWhatWouldHaveGone(t *testing.T) {
	for c := 1; c < 9; c++ {
		x := bothOf[int, int](t, c)
		for k := range c {
			x.put(k, k)
		}
		for round := range 4 * c {
			l := x.cache.Keys()
			last := l[c-1]
			if round%3 == 0 {
				x.put(last, -round)
			} else {
				x.get(last)
			}
			x.ask()
			if x.cache.Keys()[0] != last {
				t.Fatalf("c %d: %d was used: %v", c, last, x.cache.Keys())
			}
			x.put(1000+round, round)
			x.ask()
			if _, ok := x.cache.Get(last); ok != (c > 1) {
				t.Fatalf("c %d: %d that was used: kept %v", c, last, ok)
			}
			x.plain.get(last)
		}
	}
}

// What went comes again as a new key, with its new value.
func TestPutOfWhatWent(t *testing.T) {
	for c := range 4 {
		x := bothOf[string, int](t, c)
		for round := range 30 {
			k := string(rune('a' + round%(c+1)))
			x.get(k)
			x.put(k, round)
			x.ask()
		}
	}
}

// Neither Len nor Keys use anything: what would have gone goes.
func TestQuestionsUseNothing(t *testing.T) {
	x := begun[string, int](t, 2)
	x.Put("a", 1)
	x.Put("b", 2)
	for range 5 {
		if x.Len() != 2 || !slices.Equal(x.Keys(), []string{"b", "a"}) {
			t.Fatalf("Len %d, Keys %q", x.Len(), x.Keys())
		}
	}
	x.Put("c", 3)
	if l := x.Keys(); !slices.Equal(l, []string{"c", "b"}) {
		t.Errorf("Keys: %q", l)
	}
}

// A value that is the type's zero value is kept as any other one.
func TestZeroValuesAreKept(t *testing.T) {
	x := begun[string, []int](t, 2)
	x.Put("", nil)
	x.Put("a", []int{1})
	if l, ok := x.Get(""); l != nil || !ok {
		t.Errorf("Get of no text: %v, %v", l, ok)
	}
	x.Put("b", nil)
	if l := x.Keys(); !slices.Equal(l, []string{"b", ""}) {
		t.Errorf("Keys: %q", l)
	}
	x.Put("b", []int{2, 3})
	x.Put("", nil)
	if l, ok := x.Get("b"); !slices.Equal(l, []int{2, 3}) || !ok {
		t.Errorf("Get b: %v, %v", l, ok)
	}
}

// asked is a key of several parts.
type asked struct {
	text string
	rank int
}

func TestMovesInAnyOrder(t *testing.T) {
	number := func(r *rand.Rand) int { return r.Int() }
	for _, c := range []int{0, 1, 2, 3, 5, 8, 20} {
		moveAbout(t, c, 150, func(r *rand.Rand) int { return r.Intn(10) }, number)
		moveAbout(t, c, 150, func(r *rand.Rand) uint8 { return uint8(r.Intn(25) * 11) }, number)
		moveAbout(t, c, 100, func(r *rand.Rand) string { return strings.Repeat("ab", r.Intn(8)) }, func(r *rand.Rand) string { return strings.Repeat("c", r.Intn(3)) })
		moveAbout(t, c, 100, func(r *rand.Rand) asked { return asked{strings.Repeat("a", r.Intn(3)), r.Intn(3)} }, func(r *rand.Rand) asked { return asked{"v", r.Int()} })
		moveAbout(t, c, 100, func(r *rand.Rand) [2]int { return [2]int{r.Intn(3), r.Intn(3)} }, (*rand.Rand).Float64)
		moveAbout(t, c, 50, func(r *rand.Rand) bool { return r.Intn(2) == 0 }, number)
		moveAbout(t, c, 20, func(r *rand.Rand) struct{} { return struct{}{} }, number)
	}
}

// Keys that are interfaces are told apart by their types, too; pointers by what they point at.
func TestKeysOfManyTypes(t *testing.T) {
	one, two := 1, 1
	keys := []any{nil, 1, int8(1), uint(1), 1.0, "1", true, 'a', asked{"a", 1}, [1]int{1}, [1]string{"1"}, &one, &two, struct{}{}, api.ErrArg, complex(1, 0)}
	for _, c := range []int{1, 4, len(keys) - 1, len(keys)} {
		moveAbout(t, c, 200, func(r *rand.Rand) any { return keys[r.Intn(len(keys))] }, func(r *rand.Rand) any { return keys[r.Intn(len(keys))] })
		moveAbout(t, c, 100, func(r *rand.Rand) *int { return []*int{nil, &one, &two}[r.Intn(3)] }, (*rand.Rand).Int)
	}
}

// Keys that are alike are one key, however they were made, and whatever they are told from each other by.
func TestKeysThatAreAlike(t *testing.T) {
	x := begun[string, int](t, 3)
	whole := "abcabc"
	x.Put(whole[:3], 1)
	x.Put(string([]byte(whole[3:])), 2)
	if v, ok := x.Get("abc"); v != 2 || !ok || x.Len() != 1 {
		t.Errorf("abc: %d, %v, Len %d", v, ok, x.Len())
	}
	zero := begun[float64, int](t, 3)
	zero.Put(0, 1)
	zero.Put(math.Copysign(0, -1), 2)
	zero.Put(math.Inf(1), 3)
	if v, ok := zero.Get(0); v != 2 || !ok || zero.Len() != 2 {
		t.Errorf("0: %d, %v, Len %d", v, ok, zero.Len())
	}
}

// The greatest cache, moved about many times over.
func TestTheGreatestCache(t *testing.T) {
	const rounds, since = 1 << 20, api.MaxC/2 - 1 // every other use is a Get, of what would go next but one
	x := begun[int, int](t, api.MaxC)
	for i := range rounds {
		x.Put(i, -i)
		if k := i - since; k >= 0 {
			if v, ok := x.Get(k); v != -k || !ok {
				t.Fatalf("Get(%d): %d, %v", k, v, ok)
			}
		}
	}
	if x.Len() != api.MaxC || len(x.Keys()) != api.MaxC {
		t.Fatalf("Len %d, %d keys", x.Len(), len(x.Keys()))
	}
	r := rand.New(rand.NewSource(1))
	y := bothOf[int, int](t, api.MaxC)
	for i := range 3 * api.MaxC {
		y.put(r.Intn(2*api.MaxC), i)
		y.get(r.Intn(2 * api.MaxC))
	}
	y.ask()
}
