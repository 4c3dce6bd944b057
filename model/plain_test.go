package model_test

import (
	"math/rand"
	"slices"
	"strings"
	"testing"

	"tessera/api"
	"tessera/classes"
	"tessera/model"
)

// join is a short form.
func join(left, right, id int) api.Merge { return api.Merge{Left: left, Right: right, Id: id} }

// span is a short form.
func span(lo, hi rune) api.Span { return api.Span{Lo: lo, Hi: hi} }

// blanks are the spaces of the chapter's runs.
func blanks() []api.Span { return []api.Span{span(32, 32)} }

// of answers the data of words and merges, with the classes of the chapter's runs.
func of(words []string, merges ...api.Merge) api.Data {
	return api.Data{Words: words, Merges: merges, Spaces: blanks()}
}

// known is a right model with classes of each kind: words of words, and the word of one id behind that of a later one.
func known() api.Data {
	d := of([]string{"ab", "abcde", "abc", "de", "xx", "xxxx"},
		join('a', 'b', 256), join(256, 'c', 258), join('d', 'e', 259), join(258, 259, 257), join('x', 'x', 260), join(260, 260, 261))
	d.Letters, d.Numbers, d.Spaces = []api.Span{span('a', 'z'), span(0xe9, 0xe9)}, []api.Span{span('0', '9')}, []api.Span{span(9, 10), span(32, 32)}
	return d
}

// pairs is a right model of n merges of two bytes each.
func pairs(n int) api.Data {
	d := of(nil)
	for i := range n {
		left, right := i/64, i%64
		d.Words = append(d.Words, string([]byte{byte(left), byte(right)}))
		d.Merges = append(d.Merges, join(left, right, 256+i))
	}
	return d
}

// rising is a right model, but perhaps for its longest words: each of n merges lays a byte behind the word ahead.
func rising(n int) api.Data {
	d := of(nil)
	left := int('a')
	for i := range n {
		d.Words = append(d.Words, strings.Repeat("a", 2+i))
		d.Merges = append(d.Merges, join(left, 'a', 256+i))
		left = 256 + i
	}
	return d
}

// rightOnes hands out right models.
func rightOnes(yield func(api.Data) bool) {
	bare := known()
	bare.Words, bare.Merges = nil, nil
	r := rand.New(rand.NewSource(1))
	for _, d := range []api.Data{
		of(nil), bare, known(), pairs(1), pairs(300), pairs(api.MaxMerges), rising(1), rising(api.MaxWord - 1),
		of([]string{"\xff\x00", "\x00\xff", "\xff\x00\x00\xff"}, join(255, 0, 256), join(0, 255, 257), join(256, 257, 258)),
		someRight(r, 5), someRight(r, 20), someRight(r, 200),
	} {
		if !yield(d) {
			return
		}
	}
}

// someRight answers a right model of at most n merges, whose words stand in any order.
func someRight(r *rand.Rand, n int) api.Data {
	ids, words := []int{'a', 'b', 'c', 0xff}, []string{"a", "b", "c", "\xff"}
	d := of(nil)
	for range n {
		i, j := r.Intn(len(ids)), r.Intn(len(ids))
		w := words[i] + words[j]
		if len(w) > api.MaxWord || slices.Contains(words, w) {
			continue
		}
		d.Merges = append(d.Merges, join(ids[i], ids[j], 256+len(d.Words)))
		d.Words = append(d.Words, w)
		ids, words = append(ids, 255+len(d.Words)), append(words, w)
	}
	return moved(d, r.Perm(len(d.Words)))
}

// moved answers d with its word number i moved to the row to[i], and the ids renamed with the words.
func moved(d api.Data, to []int) api.Data {
	m := copied(d)
	for i, w := range d.Words {
		m.Words[to[i]] = w
	}
	for i, x := range d.Merges {
		m.Merges[i] = join(renamed(x.Left, to), renamed(x.Right, to), renamed(x.Id, to))
	}
	return m
}

// renamed answers what moved calls id.
func renamed(id int, to []int) int {
	if id < 256 || id-256 >= len(to) {
		return id
	}
	return 256 + to[id-256]
}

// copied answers d in memory of its own.
func copied(d api.Data) api.Data {
	return api.Data{
		Words: slices.Clone(d.Words), Merges: slices.Clone(d.Merges),
		Letters: slices.Clone(d.Letters), Numbers: slices.Clone(d.Numbers), Spaces: slices.Clone(d.Spaces),
	}
}

// same tells whether a and b say the same, nil and empty lists being alike.
func same(a, b api.Data) bool {
	return slices.Equal(a.Words, b.Words) && slices.Equal(a.Merges, b.Merges) &&
		slices.Equal(a.Letters, b.Letters) && slices.Equal(a.Numbers, b.Numbers) && slices.Equal(a.Spaces, b.Spaces)
}

// made answers the model of d, which has to be right.
func made(t *testing.T, d api.Data) *model.Model {
	t.Helper()
	m, f := model.New(d)
	if m == nil || f != (model.Fault{}) {
		t.Fatalf("New(%s): %+v", told(d), f)
	}
	return m
}

// check holds what New answers of d against want, and want against the chapter.
func check(t *testing.T, d api.Data, want model.Fault) {
	t.Helper()
	if m, f := model.New(d); f != want || (m != nil) != (want.Why == api.OK) {
		t.Errorf("New(%s): %v, %+v, want %+v", told(d), m != nil, f, want)
	}
	if f := plainFault(d); f != want {
		t.Errorf("plain New(%s): %+v, want %+v", told(d), f, want)
	}
}

// plainFault is P5.1 word by word.
func plainFault(d api.Data) model.Fault {
	if len(d.Merges) > api.MaxMerges {
		return model.Fault{Why: api.ErrMany, List: model.Merges, Row: api.MaxMerges}
	}
	if len(d.Words) != len(d.Merges) {
		return model.Fault{Why: api.ErrMany, List: model.Words, Row: min(len(d.Words), len(d.Merges))}
	}
	if _, w := classes.New(d.Letters, d.Numbers, d.Spaces); w.Why != api.OK {
		return model.Fault{Why: w.Why, List: w.List, Row: w.Row}
	}
	for row, w := range d.Words {
		if len(w) < 2 || len(w) > api.MaxWord {
			return model.Fault{Why: api.ErrWord, List: model.Words, Row: row}
		}
		if slices.Contains(d.Words[:row], w) {
			return model.Fault{Why: api.ErrTwice, List: model.Words, Row: row}
		}
	}
	for rank := range d.Merges {
		if why := plainMerge(d, rank); why != api.OK {
			return model.Fault{Why: why, List: model.Merges, Row: rank}
		}
	}
	return model.Fault{}
}

// plainMerge is P5.1's fourth rule word by word.
func plainMerge(d api.Data, rank int) api.Errno {
	x, ahead := d.Merges[rank], d.Merges[:rank]
	isAhead := func(id int) bool {
		return slices.ContainsFunc(ahead, func(y api.Merge) bool { return y.Id == id })
	}
	isPart := func(id int) bool { return id >= 0 && id <= 255 || isAhead(id) }
	switch {
	case x.Id < 256, x.Id >= 256+len(d.Words), isAhead(x.Id):
		return api.ErrId
	case !isPart(x.Left), !isPart(x.Right):
		return api.ErrPart
	case plainWord(d, x.Id) != plainWord(d, x.Left)+plainWord(d, x.Right):
		return api.ErrBytes
	case slices.ContainsFunc(ahead, func(y api.Merge) bool { return y.Left == x.Left && y.Right == x.Right }):
		return api.ErrTwice
	}
	return api.OK
}

// plainWord is P5.2's Word of an id of d.
func plainWord(d api.Data, id int) string {
	if id > 255 {
		return d.Words[id-256]
	}
	return string([]byte{byte(id)})
}

// plainPair is P5.2's Merge.
func plainPair(d api.Data, left, right int) (int, int, bool) {
	for rank, x := range d.Merges {
		if x.Left == left && x.Right == right {
			return rank, x.Id, true
		}
	}
	return 0, 0, false
}
