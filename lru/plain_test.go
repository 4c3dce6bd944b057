package lru_test

import (
	"cmp"
	"fmt"
	"math/rand"
	"slices"
	"testing"

	"tessera/api"
	"tessera/lru"
)

// use is a key, what was put for it last, and when it was used last.
type use[K comparable, V any] struct {
	key   K
	value V
	time  int
}

// plain is the chapter word by word: uses in no order, all of which each question goes through.
type plain[K comparable, V any] struct {
	c    int
	now  int
	uses []use[K, V]
}

// of answers k's use, nil if k isn't kept.
func (p *plain[K, V]) of(k K) *use[K, V] {
	for i := range p.uses {
		if p.uses[i].key == k {
			return &p.uses[i]
		}
	}
	return nil
}

// get is P11.2.
func (p *plain[K, V]) get(k K) (v V, ok bool) {
	p.now++
	u := p.of(k)
	if u == nil {
		return v, false
	}
	u.time = p.now
	return u.value, true
}

// put is P11.3.
func (p *plain[K, V]) put(k K, v V) {
	p.now++
	if u := p.of(k); u != nil {
		u.value, u.time = v, p.now
		return
	}
	p.uses = append(p.uses, use[K, V]{k, v, p.now})
	if len(p.uses) > p.c {
		longestAgo := slices.MinFunc(p.uses, func(a, b use[K, V]) int { return cmp.Compare(a.time, b.time) })
		p.uses = slices.DeleteFunc(p.uses, func(u use[K, V]) bool { return u.time == longestAgo.time })
	}
}

// keys is P11.4.
func (p *plain[K, V]) keys() []K {
	l := slices.SortedFunc(slices.Values(p.uses), func(a, b use[K, V]) int { return cmp.Compare(b.time, a.time) })
	var keys []K
	for _, u := range l {
		keys = append(keys, u.key)
	}
	return keys
}

// both is a cache and a plain one that are moved alike.
type both[K, V comparable] struct {
	t     *testing.T
	cache *lru.Cache[K, V]
	plain plain[K, V]
	told  []string // the moves so far, for who reads of a fault
}

// begun answers a new cache.
func begun[K comparable, V any](t *testing.T, c int) *lru.Cache[K, V] {
	t.Helper()
	x, why := lru.New[K, V](c)
	if x == nil || why != api.OK {
		t.Fatalf("New(%d): %v, %v", c, x, why)
	}
	return x
}

// bothOf starts with a new cache of c entries.
func bothOf[K, V comparable](t *testing.T, c int) *both[K, V] {
	t.Helper()
	return &both[K, V]{t: t, cache: begun[K, V](t, c), plain: plain[K, V]{c: c}}
}

// tell keeps the last moves.
func (x *both[K, V]) tell(move string, what ...any) {
	x.told = append(x.told, move+fmt.Sprint(what...))
	x.told = x.told[max(0, len(x.told)-12):]
}

// get is P11.2.
func (x *both[K, V]) get(k K) {
	x.t.Helper()
	x.tell("Get ", k)
	v, ok := x.cache.Get(k)
	want, kept := x.plain.get(k)
	if v != want || ok != kept {
		x.t.Fatalf("c %d, .. %q: %v, %v, want %v, %v", x.plain.c, x.told, v, ok, want, kept)
	}
}

// put is P11.3.
func (x *both[K, V]) put(k K, v V) {
	x.t.Helper()
	x.tell("Put ", k, " ", v)
	x.cache.Put(k, v)
	x.plain.put(k, v)
}

// ask is P11.4, and that the questions use nothing.
func (x *both[K, V]) ask() {
	x.t.Helper()
	want := x.plain.keys()
	for range 2 {
		if got := x.cache.Len(); got != len(want) {
			x.t.Fatalf("c %d, .. %q: Len %d, want %d", x.plain.c, x.told, got, len(want))
		}
		if got := x.cache.Keys(); !slices.Equal(got, want) {
			x.t.Fatalf("c %d, .. %q: Keys %v, want %v", x.plain.c, x.told, got, want)
		}
	}
}

// askValues gets all that is kept, and what went.
func (x *both[K, V]) askValues(went ...K) {
	x.t.Helper()
	for _, k := range append(x.plain.keys(), went...) {
		x.get(k)
		x.ask()
	}
}

// moveAbout gets and puts what the two functions answer, in any order.
func moveAbout[K, V comparable](t *testing.T, c, moves int, key func(r *rand.Rand) K, value func(r *rand.Rand) V) {
	t.Helper()
	for seed := range int64(30) {
		r := rand.New(rand.NewSource(seed))
		x := bothOf[K, V](t, c)
		for range moves {
			if k := key(r); r.Intn(3) == 0 {
				x.get(k)
			} else {
				x.put(k, value(r))
			}
			x.ask()
		}
		x.askValues()
	}
}

// listsOf hands out each list of n numbers below top.
func listsOf(n, top int) func(yield func([]int) bool) {
	return func(yield func([]int) bool) {
		l := make([]int, n)
		for {
			if !yield(slices.Clone(l)) {
				return
			}
			at := 0
			for ; at < n && l[at] == top-1; at++ {
				l[at] = 0
			}
			if at == n {
				return
			}
			l[at]++
		}
	}
}
