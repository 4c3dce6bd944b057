package bpe_test

import (
	"math/rand"
	"slices"
	"strings"
	"testing"

	"tessera/api"
	"tessera/bpe"
	"tessera/model"
)

// join is a short form.
func join(left, right, id int) api.Merge { return api.Merge{Left: left, Right: right, Id: id} }

// of answers the data of words and merges, with the least classes that may be.
func of(words []string, merges ...api.Merge) api.Data {
	return api.Data{Words: words, Merges: merges, Spaces: []api.Span{{Lo: ' ', Hi: ' '}}}
}

// made is the model of d.
func made(t *testing.T, d api.Data) *model.Model {
	t.Helper()
	m, f := model.New(d)
	if m == nil {
		t.Fatalf("no model of %v: %+v", d.Merges, f)
	}
	return m
}

// runs is the model of the chapter's runs.
func runs() api.Data {
	return of([]string{"ab", "abc", "bc"}, join('b', 'c', 258), join('a', 'b', 256), join(256, 'c', 257))
}

// doubles is a model whose words are n of the byte b, twice as many each.
func doubles(b byte, n int) api.Data {
	d := of(nil)
	id := int(b)
	for i := range n {
		d.Words = append(d.Words, strings.Repeat(string([]byte{b}), 2<<i))
		d.Merges = append(d.Merges, join(id, id, 256+i))
		id = 256 + i
	}
	return d
}

// rising is a model of n merges, each of which lays a byte behind the word ahead.
func rising(n int) api.Data {
	d := of(nil)
	left := int('a')
	for i := range n {
		d.Words = append(d.Words, strings.Repeat("a", 2+i))
		d.Merges = append(d.Merges, join(left, 'a', 256+i))
		left = 256 + i
	}
	return d
}

// wordOf answers the bytes of one of d's ids.
func wordOf(d api.Data, id int) string {
	if id < 256 {
		return string([]byte{byte(id)})
	}
	return d.Words[id-256]
}

// wordsOf answers the words of ids, one behind the other.
func wordsOf(d api.Data, ids []int) string {
	var b strings.Builder
	for _, id := range ids {
		b.WriteString(wordOf(d, id))
	}
	return b.String()
}

// grown answers d with one more merge, of left and right, if its word is a new one that may be.
func grown(d api.Data, left, right int) (api.Data, bool) {
	w := wordOf(d, left) + wordOf(d, right)
	if len(w) > api.MaxWord || slices.Contains(d.Words, w) {
		return api.Data{}, false
	}
	id := 256 + len(d.Words)
	d.Words = append(slices.Clone(d.Words), w)
	d.Merges = append(slices.Clone(d.Merges), join(left, right, id))
	return d, true
}

// partsOf answers the ids that a merge behind d's may join: those of letters and of the words.
func partsOf(d api.Data, letters string) []int {
	ids := bytesOf(letters)
	for i := range d.Words {
		ids = append(ids, 256+i)
	}
	return ids
}

// modelsOf hands out each model of n merges of letters, but for the names of the ids.
func modelsOf(letters string, n int) func(yield func(api.Data) bool) {
	return func(yield func(api.Data) bool) { grow(of(nil), letters, n, yield) }
}

// grow hands out d with each n merges behind its own; it answers false when it was left.
func grow(d api.Data, letters string, n int, yield func(api.Data) bool) bool {
	if n == 0 {
		return yield(d)
	}
	ids := partsOf(d, letters)
	for _, left := range ids {
		for _, right := range ids {
			if x, ok := grown(d, left, right); ok && !grow(x, letters, n-1, yield) {
				return false
			}
		}
	}
	return true
}

// someModel answers a model of n merges of letters, or of fewer where the words would be too long.
func someModel(r *rand.Rand, letters string, n int) api.Data {
	d := of(nil)
	for range n {
		ids := partsOf(d, letters)
		if x, ok := grown(d, ids[r.Intn(len(ids))], ids[r.Intn(len(ids))]); ok {
			d = x
		}
	}
	return d
}

// moved answers d with its words in another order and its ids renamed so, and of each old id its new one.
func moved(r *rand.Rand, d api.Data) (api.Data, []int) {
	names := make([]int, 256+len(d.Words))
	for id := range 256 {
		names[id] = id
	}
	x := of(make([]string, len(d.Words)))
	for from, to := range r.Perm(len(d.Words)) {
		names[256+from] = 256 + to
		x.Words[to] = d.Words[from]
	}
	for _, g := range d.Merges {
		x.Merges = append(x.Merges, join(names[g.Left], names[g.Right], names[g.Id]))
	}
	return x, names
}

// textsOf hands out each text of n of letters.
func textsOf(letters string, n int) func(yield func(string) bool) {
	return func(yield func(string) bool) {
		for l := range listsOf(n, len(letters)) {
			b := make([]byte, n)
			for i, at := range l {
				b[i] = letters[at]
			}
			if !yield(string(b)) {
				return
			}
		}
	}
}

// listsOf hands out each list of n numbers below top.
func listsOf(n, top int) func(yield func([]int) bool) {
	return func(yield func([]int) bool) {
		l := make([]int, n)
		for {
			if !yield(slices.Clone(l)) {
				return
			}
			at := 0
			for ; at < n && l[at] == top-1; at++ {
				l[at] = 0
			}
			if at == n {
				return
			}
			l[at]++
		}
	}
}

// someText answers a text of n of letters.
func someText(r *rand.Rand, letters string, n int) string {
	b := make([]byte, n)
	for i := range b {
		b[i] = letters[r.Intn(len(letters))]
	}
	return string(b)
}

// bytesOf answers the ids of s's bytes.
func bytesOf(s string) []int {
	ids := []int{}
	for _, b := range []byte(s) {
		ids = append(ids, int(b))
	}
	return ids
}

// plain is the chapter word by word: for each step all merges are looked for in all neighbours.
func plain(d api.Data, ids []int) ([]int, []bpe.Step) {
	ids = slices.Clone(ids)
	var steps []bpe.Step
	for {
		x, ok := plainStep(d, ids)
		if !ok {
			return ids, steps
		}
		ids = slices.Replace(ids, x.At, x.At+2, d.Merges[x.Rank].Id)
		steps = append(steps, x)
	}
}

// plainStep answers the lowest merge of two neighbours, of several the leftmost.
func plainStep(d api.Data, ids []int) (bpe.Step, bool) {
	for rank, x := range d.Merges {
		for at := 1; at < len(ids); at++ {
			if ids[at-1] == x.Left && ids[at] == x.Right {
				return bpe.Step{Rank: rank, At: at - 1}, true
			}
		}
	}
	return bpe.Step{}, false
}

// passes is plain for long texts: ranks rise, so each merge is done all through the row, from the left, and never again.
func passes(d api.Data, ids []int) ([]int, []bpe.Step) {
	ids = slices.Clone(ids)
	var steps []bpe.Step
	for rank, x := range d.Merges {
		n := 0 // ids that this pass has left so far, at the beginning of ids
		for at := 0; at < len(ids); at++ {
			ids[n] = ids[at]
			if at+1 < len(ids) && ids[at] == x.Left && ids[at+1] == x.Right {
				ids[n] = x.Id
				steps = append(steps, bpe.Step{Rank: rank, At: n})
				at++
			}
			n++
		}
		ids = ids[:n]
	}
	return ids, steps
}

// check holds Merge, Steps and Joined of s against what is wanted of it, and against what follows (P10.4, P10.5).
func check(t *testing.T, d api.Data, m *model.Model, s string, want []int, steps []bpe.Step) {
	t.Helper()
	checkJoined(t, d, m, bytesOf(s), want)
	got, why := bpe.Merge(m, s)
	if why != api.OK || !slices.Equal(got, want) {
		t.Fatalf("Merge of %q by %v: %v, %v, want %v", short(s), shortly(d.Merges), shortly(got), why, shortly(want))
	}
	l := slices.Collect(bpe.Steps(m, s))
	if !slices.Equal(l, steps) {
		t.Fatalf("Steps of %q by %v: %v, want %v", short(s), shortly(d.Merges), shortly(l), shortly(steps))
	}
	if len(l) != len(s)-len(got) {
		t.Fatalf("P10.4: %d steps of %d bytes to %d ids", len(l), len(s), len(got))
	}
	for i := 1; i < len(l); i++ {
		if l[i].Rank < l[i-1].Rank {
			t.Fatalf("P10.5: %v behind %v", l[i], l[i-1])
		}
	}
}

// checkJoined holds Joined of ids against what is wanted of it, and against what follows (P10.4).
func checkJoined(t *testing.T, d api.Data, m *model.Model, ids, want []int) {
	t.Helper()
	got, why := bpe.Joined(m, ids)
	if why != api.OK || !slices.Equal(got, want) {
		t.Fatalf("Joined of %v by %v: %v, %v, want %v", shortly(ids), shortly(d.Merges), shortly(got), why, shortly(want))
	}
	if wordsOf(d, got) != wordsOf(d, ids) {
		t.Fatalf("P10.4: the words of %v are not those of %v", shortly(got), shortly(ids))
	}
	for i := 1; i < len(got); i++ {
		if _, _, ok := m.Merge(got[i-1], got[i]); ok {
			t.Fatalf("P10.4: %d, %d have a merge", got[i-1], got[i])
		}
	}
}

// checkPlain holds all calls of s against plain.
func checkPlain(t *testing.T, d api.Data, m *model.Model, s string) {
	t.Helper()
	want, steps := plain(d, bytesOf(s))
	check(t, d, m, s, want, steps)
}

// checkLong holds all calls of s against passes.
func checkLong(t *testing.T, d api.Data, s string) {
	t.Helper()
	want, steps := passes(d, bytesOf(s))
	check(t, d, made(t, d), s, want, steps)
}

// short is s, or its beginning.
func short(s string) string { return string(shortly([]byte(s))) }

// shortly is l, or its beginning.
func shortly[T any](l []T) []T { return l[:min(len(l), 40)] }
