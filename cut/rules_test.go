package cut_test

import (
	"math/rand"
	"reflect"
	"slices"
	"strings"
	"sync"
	"testing"

	"tessera/api"
	"tessera/cut"
)

// R2: what Tokens answers is new memory each time, its spare room too.
func TestTokensIsNewMemory(t *testing.T) {
	m := made(t, known())
	mine := token(-1, -2, -3)
	for n := range 40 {
		s := strings.Repeat("a1 ", n)
		one, _ := cut.Tokens(m, s)
		two, _ := cut.Tokens(m, s)
		writeOver(one, mine)
		if slices.Contains(two[:cap(two)], mine) {
			t.Fatalf("%d pre-tokens: two answers share memory", len(two))
		}
		if want := plain(known(), s); !slices.Equal(two, want) {
			t.Fatalf("behind writing over an answer: %v, want %v", two, want)
		}
		check(t, known(), m, s)
		if slices.ContainsFunc(one[:cap(one)], func(x cut.Token) bool { return x != mine }) {
			t.Fatalf("an answer was written to: %v", one[:cap(one)])
		}
	}
}

// writeOver writes x over all of l, its spare room too.
func writeOver(l []cut.Token, x cut.Token) {
	l = l[:cap(l)]
	for i := range l {
		l[i] = x
	}
}

// R2: the model stays as it was.
func TestTheModelIsNotChanged(t *testing.T) {
	r := rand.New(rand.NewSource(3))
	for d := range datas {
		m := made(t, d)
		was := m.Data()
		for range 20 {
			cut.Tokens(m, someText(r, 20))
			for range cut.All(m, someText(r, 20)) {
				break
			}
		}
		cut.Tokens(m, strings.Repeat("a", api.MaxText+1))
		if got := m.Data(); !reflect.DeepEqual(got, was) {
			t.Errorf("%v, was %v", got, was)
		}
	}
}

// R3, R4: a refused call changes nothing of what other calls answer, nor do the calls of each other.
func TestTheSameAgain(t *testing.T) {
	r := rand.New(rand.NewSource(4))
	for d := range datas {
		m := made(t, d)
		s := someText(r, 60)
		want, _ := cut.Tokens(m, s)
		for range 5 {
			cut.Tokens(nil, s)
			cut.Tokens(m, s+strings.Repeat("'", api.MaxText))
			cut.Tokens(m, someText(r, 60))
			got, why := cut.Tokens(m, s)
			again, _ := cut.Tokens(made(t, d), s)
			if !slices.Equal(got, want) || why != api.OK || !slices.Equal(again, want) {
				t.Fatalf("%s: %v, %v and %v, want %v", short(s), head(got), why, head(again), head(want))
			}
		}
	}
}

// R2, R4: only the classes of a model tell, neither its words nor its merges.
func TestOnlyTheClassesTell(t *testing.T) {
	r := rand.New(rand.NewSource(5))
	d := known()
	bare := made(t, d)
	d.Words = []string{"a ", " a", "'r", "ss"}
	for i, w := range d.Words {
		d.Merges = append(d.Merges, api.Merge{Left: int(w[0]), Right: int(w[1]), Id: 256 + i})
	}
	m := made(t, d)
	for range 1000 {
		s := someText(r, 20)
		one, _ := cut.Tokens(bare, s)
		two, _ := cut.Tokens(m, s)
		if !slices.Equal(one, two) {
			t.Fatalf("%s: %v, with merges %v", short(s), head(one), head(two))
		}
	}
}

// R9: several goroutines may ask one model, and range over what All answered.
func TestManyAtOnce(t *testing.T) {
	for d := range datas {
		m := made(t, d)
		r := rand.New(rand.NewSource(6))
		s := someText(r, 300)
		want := plain(d, s)
		seq := cut.All(m, s)
		right := make([]bool, 8)
		var group sync.WaitGroup
		for i := range right {
			group.Go(func() {
				l, why := cut.Tokens(m, s)
				right[i] = slices.Equal(l, want) && why == api.OK && slices.Equal(slices.Collect(seq), want)
			})
		}
		group.Wait()
		if slices.Contains(right, false) {
			t.Errorf("%v: at once: %v", d, right)
		}
	}
}
