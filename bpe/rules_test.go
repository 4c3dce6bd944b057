package bpe_test

import (
	"iter"
	"math"
	"math/rand"
	"slices"
	"sync"
	"testing"

	"tessera/api"
	"tessera/bpe"
)

// R1, R3: whatever list is given, Joined ends, and answers either ids or one of its refusals.
func TestJoinedOfWhateverList(t *testing.T) {
	r := rand.New(rand.NewSource(8))
	d := runs()
	m := made(t, d)
	ids := []int{math.MinInt, -256, -1, 0, 'a', 'b', 'c', 255, 256, 257, 258, 259, 260, 1<<32 + 'a', math.MaxInt}
	for range 20000 {
		l := make([]int, r.Intn(6))
		ok := true
		for i := range l {
			l[i] = ids[r.Intn(len(ids))]
			ok = ok && l[i] >= 0 && l[i] < 259
		}
		if ok {
			want, _ := plain(d, l)
			checkJoined(t, d, m, l, want)
			continue
		}
		if got, why := bpe.Joined(m, l); len(got) != 0 || why != api.ErrId {
			t.Fatalf("Joined of %v: %v, %v", l, got, why)
		}
	}
}

// R2: what is handed in stays as it was, behind its length, too.
func TestJoinedChangesNothingOfItsList(t *testing.T) {
	m := made(t, runs())
	for _, l := range [][]int{{}, {'a', 'b'}, {256, 'c', 'b', 'c'}, {'a', 'b', 'c', 'a', 'b'}, {'a', 999}, {-1, 'a', 'b'}} {
		room := append(slices.Clone(l), 'a', 'b', 'c', -7)
		was := slices.Clone(room)
		bpe.Joined(m, room[:len(l)])
		bpe.Joined(nil, room[:len(l)])
		if !slices.Equal(room, was) {
			t.Errorf("Joined of %v has made %v of %v", l, room, was)
		}
	}
}

// R5: what stands behind the list's length isn't read.
func TestJoinedReadsNothingBehindItsList(t *testing.T) {
	d := runs()
	m := made(t, d)
	for _, behind := range []int{'b', 'c', 999, -1} {
		room := []int{'a', 'a', behind, behind}
		checkJoined(t, d, m, room[:2], []int{'a', 'a'})
		checkJoined(t, d, m, room[:1], []int{'a'})
		checkJoined(t, d, m, room[:0], nil)
	}
}

// R2: an answer is memory of its own, its spare room too: writing it over changes neither the list nor other answers.
func TestAnswersAreNewMemory(t *testing.T) {
	m := made(t, runs())
	for _, s := range []string{"x", "ac", "abc", "abab", "abcxyzabc"} {
		want, _ := bpe.Merge(m, s)
		list := bytesOf(s)
		first, _ := bpe.Merge(m, s)
		second, _ := bpe.Joined(m, list)
		third, _ := bpe.Joined(m, second)
		for _, l := range [][]int{first, second} {
			l = l[:cap(l)]
			for i := range l {
				l[i] = -5
			}
		}
		if !slices.Equal(list, bytesOf(s)) {
			t.Errorf("%q: the list shares memory with an answer: %v", s, list)
		}
		if again, _ := bpe.Merge(m, s); !slices.Equal(again, want) || !slices.Equal(third, want) {
			t.Errorf("%q: behind writing over answers: %v, %v, want %v", s, again, third, want)
		}
	}
}

// R2: what is answered stays, when the list that was handed in changes behind the call.
func TestTheListIsNotKept(t *testing.T) {
	m := made(t, runs())
	for _, l := range [][]int{{'x'}, {'a', 'c'}, {'a', 'b', 'c'}} {
		got, _ := bpe.Joined(m, l)
		want := slices.Clone(got)
		for i := range l {
			l[i] = 'z'
		}
		if !slices.Equal(got, want) {
			t.Errorf("the answer changes with the list: %v, want %v", got, want)
		}
	}
}

// R4
func TestNilAndEmptyLists(t *testing.T) {
	d := runs()
	m := made(t, d)
	for _, l := range [][]int{nil, {}, make([]int, 0, 9)} {
		checkJoined(t, d, m, l, nil)
		if got, why := bpe.Joined(nil, l); len(got) != 0 || why != api.ErrArg {
			t.Errorf("of no model: %v, %v", got, why)
		}
	}
}

// R4: the same calls answer the same, by a model made anew too.
func TestTheSameAgain(t *testing.T) {
	r := rand.New(rand.NewSource(9))
	d := someModel(r, "abc", 80)
	s := someText(r, "abc", 400)
	want, steps := plain(d, bytesOf(s))
	for range 5 {
		m := made(t, d)
		for range 5 {
			check(t, d, m, s, want, steps)
		}
	}
}

// Models that are alike but for the names of the ids merge alike but for these.
func TestIdsRenamed(t *testing.T) {
	r := rand.New(rand.NewSource(10))
	for range 200 {
		d := someModel(r, "ab", 25)
		x, names := moved(r, d)
		s := someText(r, "ab", 50)
		want, steps := plain(d, bytesOf(s))
		for i, id := range want {
			want[i] = names[id]
		}
		check(t, x, made(t, x), s, want, steps)
	}
}

// A ranging within a ranging, and two in turn, don't hang on one another.
func TestRangingsAtOnce(t *testing.T) {
	d := doubles('a', 3)
	m := made(t, d)
	const s = "aaaaaaaaaaa"
	_, want := plain(d, bytesOf(s))
	l := bpe.Steps(m, s)
	var outer []bpe.Step
	for x := range l {
		outer = append(outer, x)
		if got := slices.Collect(l); !slices.Equal(got, want) {
			t.Fatalf("within: %v, want %v", got, want)
		}
		bpe.Merge(m, s)
	}
	if !slices.Equal(outer, want) {
		t.Errorf("about: %v, want %v", outer, want)
	}
	one, stopOne := iter.Pull(l)
	two, stopTwo := iter.Pull(l)
	defer stopOne()
	defer stopTwo()
	for i, x := range want {
		a, ok := one()
		b, yes := two()
		if a != x || b != x || !ok || !yes {
			t.Fatalf("in turn, %d: %v, %v, want %v", i, a, b, x)
		}
	}
}

// A ranging whose body panics leaves what was answered as it was.
func TestAPanicAmidARanging(t *testing.T) {
	m := made(t, runs())
	l := bpe.Steps(m, "abcab")
	func() {
		defer func() { recover() }()
		for range l {
			panic("amid")
		}
	}()
	if got := slices.Collect(l); len(got) != 2 {
		t.Errorf("behind it: %v", got)
	}
}

// R9: several goroutines may merge by one model, and range over what one call answered.
func TestManyGoroutines(t *testing.T) {
	r := rand.New(rand.NewSource(11))
	d := someModel(r, "abc", 60)
	m := made(t, d)
	s := someText(r, "abc", 300)
	want, steps := plain(d, bytesOf(s))
	ids, l := bytesOf(s), bpe.Steps(m, s)
	wrong := make([]bool, 8)
	var all sync.WaitGroup
	for i := range wrong {
		all.Go(func() {
			for range 20 {
				a, _ := bpe.Merge(m, s)
				b, _ := bpe.Joined(m, ids)
				if !slices.Equal(a, want) || !slices.Equal(b, want) || !slices.Equal(slices.Collect(l), steps) {
					wrong[i] = true
				}
			}
		})
	}
	all.Wait()
	if slices.Contains(wrong, true) {
		t.Errorf("goroutines that were answered otherwise: %v", wrong)
	}
}
