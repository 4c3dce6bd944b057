package model_test

import (
	"fmt"
	"math"
	"math/rand"
	"slices"
	"strings"
	"testing"

	"tessera/api"
	"tessera/classes"
	"tessera/model"
)

// told answers d in some words, which end soon.
func told(d api.Data) string {
	if len(d.Words)+len(d.Merges)+len(d.Letters)+len(d.Numbers)+len(d.Spaces) > 100 {
		return fmt.Sprintf("%d words, %d merges, %d, %d, %d spans", len(d.Words), len(d.Merges), len(d.Letters), len(d.Numbers), len(d.Spaces))
	}
	return fmt.Sprintf("%.20q, %v, %v, %v, %v", d.Words, d.Merges, d.Letters, d.Numbers, d.Spaces)
}

// inWords is a refusal of a row of the words.
func inWords(why api.Errno, row int) model.Fault {
	return model.Fault{Why: why, List: model.Words, Row: row}
}

// inMerges is a refusal of a merge.
func inMerges(why api.Errno, rank int) model.Fault {
	return model.Fault{Why: why, List: model.Merges, Row: rank}
}

// P5.1

func TestNumbersOfLists(t *testing.T) {
	if model.Words != 4 || model.Merges != 5 {
		t.Error(model.Words, model.Merges)
	}
}

func TestNewOfRightModels(t *testing.T) {
	for d := range rightOnes {
		check(t, d, model.Fault{})
	}
}

func TestNewOfKnownModels(t *testing.T) {
	ab, abc := join('a', 'b', 256), join(256, 'c', 257)
	for _, c := range []struct {
		d    api.Data
		want model.Fault
	}{
		{of([]string{"ab"}, ab), model.Fault{}},
		{of([]string{"ab", "abc"}, ab, abc), model.Fault{}},
		{of([]string{"ab", "abc"}, abc, ab), inMerges(api.ErrPart, 0)},
		{of([]string{"ab"}, join('a', 'c', 256)), inMerges(api.ErrBytes, 0)},
		{of([]string{"ab"}, join('a', 'b', 257)), inMerges(api.ErrId, 0)},
		{of([]string{"ab"}, join('a', 'b', 'a')), inMerges(api.ErrId, 0)},
		{of([]string{"ab", "ab"}, ab, ab), inWords(api.ErrTwice, 1)},
		{of([]string{"a"}, ab), inWords(api.ErrWord, 0)},
		{of([]string{strings.Repeat("a", 257)}, ab), inWords(api.ErrWord, 0)},
		{of([]string{"ab"}), inWords(api.ErrMany, 0)},
	} {
		check(t, c.d, c.want)
	}
}

func TestNewOfAsManyMergesAsMayBe(t *testing.T) {
	check(t, pairs(api.MaxMerges), model.Fault{})
	more := pairs(api.MaxMerges + 1)
	check(t, more, inMerges(api.ErrMany, api.MaxMerges))
	for _, words := range [][]string{nil, more.Words[:1], more.Words[:api.MaxMerges], append(more.Words, "zz")} {
		more.Words = words
		check(t, more, inMerges(api.ErrMany, api.MaxMerges))
	}
	more = pairs(2 * api.MaxMerges)
	check(t, more, inMerges(api.ErrMany, api.MaxMerges))
	more.Merges = more.Merges[:api.MaxMerges]
	check(t, more, inWords(api.ErrMany, api.MaxMerges))
}

func TestNewOfMoreAndFewerWords(t *testing.T) {
	d := pairs(6)
	for words := range len(d.Words) + 1 {
		for merges := range len(d.Merges) + 1 {
			var want model.Fault
			if words != merges {
				want = inWords(api.ErrMany, min(words, merges))
			}
			check(t, of(d.Words[:words], d.Merges[:merges]...), want)
		}
	}
}

// badLists are what classes.New refuses of a list that goes on with them: why, and how far behind its beginning.
var badLists = []struct {
	l   []api.Span
	why api.Errno
	at  int
}{
	{[]api.Span{span(0x2000, 0x2001), span(0x2001, 0x2002)}, api.ErrOrder, 1},
	{[]api.Span{span(0x2000, 0x1fff)}, api.ErrOrder, 0},
	{[]api.Span{span(0x2000, 0x2000), span(0x3000, 0x3000), span(0xd800, 0xe000)}, api.ErrRune, 2},
	{[]api.Span{span(-1, 0x2000)}, api.ErrRune, 0},
	{[]api.Span{span(0x2000, 0x110000)}, api.ErrRune, 0},
}

// manySpans answers n spans of a rune each, from first on.
func manySpans(n int, first rune) []api.Span {
	var l []api.Span
	for i := range rune(n) {
		l = append(l, span(first+2*i, first+2*i))
	}
	return l
}

// listOf answers the list of d that has that number.
func listOf(d *api.Data, list int) *[]api.Span {
	return []*[]api.Span{1: &d.Letters, 2: &d.Numbers, 3: &d.Spaces}[list]
}

// checkBare holds Bare of d's classes against want, which is told of d with words and merges, too.
func checkBare(t *testing.T, d api.Data, want model.Fault) {
	t.Helper()
	check(t, d, want)
	if m, f := model.Bare(d.Letters, d.Numbers, d.Spaces); f != want || (m != nil) != (want.Why == api.OK) {
		t.Errorf("Bare(%s): %v, %+v, want %+v", told(d), m != nil, f, want)
	}
}

func TestNewOfClassesThatMayNotBe(t *testing.T) {
	for list := classes.Letters; list <= classes.Spaces; list++ {
		for _, c := range badLists {
			d := known()
			l := listOf(&d, list)
			n := len(*l)
			*l = append(*l, c.l...)
			checkBare(t, d, model.Fault{Why: c.why, List: list, Row: n + c.at})
		}
		d := known()
		l := listOf(&d, list)
		*l = append(*l, manySpans(api.MaxSpans-len(*l), 0x2000)...)
		checkBare(t, d, model.Fault{})
		*l = append(*l, span(0x9000, 0x9000))
		checkBare(t, d, model.Fault{Why: api.ErrMany, List: list, Row: api.MaxSpans})
		d = known()
		l = listOf(&d, list)
		*l = slices.Concat(*l, []api.Span{span(0x2000, 0x2000)})
		for behind := list + 1; behind <= classes.Spaces; behind++ {
			over := copied(d)
			l := listOf(&over, behind)
			*l = append(*l, span(0x1fff, 0x2000))
			checkBare(t, over, model.Fault{Why: api.ErrOver, List: behind, Row: len(*l) - 1})
		}
	}
}

func TestNewOfBlankAndQuote(t *testing.T) {
	want := model.Fault{Why: api.ErrBlank, List: classes.Spaces}
	checkBare(t, api.Data{}, want)
	d := known()
	d.Spaces = d.Spaces[:1]
	checkBare(t, d, want)
	for list := classes.Letters; list <= classes.Spaces; list++ {
		d := known()
		l := listOf(&d, list)
		*l = append(*l, span(39, 39))
		slices.SortFunc(*l, func(a, b api.Span) int { return int(a.Lo - b.Lo) })
		checkBare(t, d, want)
	}
}

func TestNewOfWordsOfEachLength(t *testing.T) {
	for n := range api.MaxWord + 3 {
		want := inWords(api.ErrWord, 0)
		if n >= 2 && n <= api.MaxWord {
			want = inMerges(api.ErrPart, 0)
		}
		check(t, of([]string{strings.Repeat("a", n)}, join(-1, 'a', 256)), want)
	}
	check(t, rising(api.MaxWord-1), model.Fault{})
	check(t, rising(api.MaxWord), inWords(api.ErrWord, api.MaxWord-1))
	check(t, of([]string{strings.Repeat("a", 1<<20)}, join('a', 'a', 256)), inWords(api.ErrWord, 0))
	check(t, of([]string{"ab", "\u20ac"}, join('a', 'b', 256), join(0xe2, 0x82, 257)), inMerges(api.ErrBytes, 1))
}

func TestNewOfWordsThatStandTwice(t *testing.T) {
	for i := range 6 {
		for j := range i {
			d := known()
			d.Words[i] = d.Words[j]
			check(t, d, inWords(api.ErrTwice, i))
		}
		d := known()
		d.Words[i] = "q"
		check(t, d, inWords(api.ErrWord, i))
	}
	d := pairs(api.MaxMerges)
	d.Words[api.MaxMerges-1] = d.Words[0]
	check(t, d, inWords(api.ErrTwice, api.MaxMerges-1))
	d.Words[1] = "abc"
	d.Words[2] = "abc"
	check(t, d, inWords(api.ErrTwice, 2))
	// A word that begins or ends another one is not that one.
	check(t, of([]string{"ab", "b\x00"}, join('a', 'b', 256), join('b', 0, 257)), model.Fault{})
}

// Word by word: of two rows the first one is told, whatever is wrong with it.
func TestNewAsksWordByWord(t *testing.T) {
	d := known()
	d.Words[2], d.Words[3] = d.Words[1], ""
	check(t, d, inWords(api.ErrTwice, 2))
	d = known()
	d.Words[2], d.Words[3] = "", d.Words[1]
	check(t, d, inWords(api.ErrWord, 2))
	d = known()
	d.Words[2], d.Words[3] = "", ""
	check(t, d, inWords(api.ErrWord, 2))
	long := strings.Repeat("a", api.MaxWord+1)
	d.Words[1], d.Words[2] = long, long
	check(t, d, inWords(api.ErrWord, 1))
}

func TestNewOfIds(t *testing.T) {
	for rank := range 6 {
		for _, id := range []int{math.MinInt, -256, -1, 0, 'a', 255, 262, 263, 1 << 32, 1<<32 + 256, math.MaxInt} {
			d := known()
			d.Merges[rank].Id = id
			check(t, d, inMerges(api.ErrId, rank))
		}
		for ahead := range rank {
			d := known()
			d.Merges[rank].Id = d.Merges[ahead].Id
			check(t, d, inMerges(api.ErrId, rank))
		}
		for behind := rank + 1; behind < 6; behind++ {
			d := known()
			d.Merges[rank].Id = d.Merges[behind].Id
			check(t, d, inMerges(api.ErrBytes, rank))
		}
	}
}

func TestNewOfParts(t *testing.T) {
	for rank := range 6 {
		bad := []int{math.MinInt, -1, -256, 262, 1 << 32, 1<<32 + 'a', math.MaxInt}
		for _, x := range known().Merges[rank:] {
			bad = append(bad, x.Id) // the merge itself, and those behind
		}
		for _, id := range bad {
			d := known()
			d.Merges[rank].Left = id
			check(t, d, inMerges(api.ErrPart, rank))
			d.Merges[rank].Right = id
			check(t, d, inMerges(api.ErrPart, rank))
			d.Merges[rank].Left = known().Merges[rank].Left
			check(t, d, inMerges(api.ErrPart, rank))
		}
		good := []int{0, 'q', 128, 255}
		for _, x := range known().Merges[:rank] {
			good = append(good, x.Id)
		}
		for _, id := range good {
			if x := known().Merges[rank]; id == x.Left || id == x.Right {
				continue
			}
			d := known()
			d.Merges[rank].Left = id
			check(t, d, inMerges(api.ErrBytes, rank))
			d = known()
			d.Merges[rank].Right = id
			check(t, d, inMerges(api.ErrBytes, rank))
		}
	}
}

func TestNewOfWordsThatTheirPartsDontMake(t *testing.T) {
	turned := known()
	turned.Merges[0].Left, turned.Merges[0].Right = 'b', 'a'
	check(t, turned, inMerges(api.ErrBytes, 0))
	for _, w := range []string{"xxx", "xxxxx", "xxxy", "yxxx", "xx", "\x00xxxx", "xxxx\x00"} {
		d := known()
		d.Words[4], d.Words[5] = "xx", w
		if w != "xx" {
			check(t, d, inMerges(api.ErrBytes, 5))
		}
	}
	// Words that begin alike, or end alike.
	check(t, of([]string{"ab", "abab"}, join('a', 'b', 256), join(256, 'b', 257)), inMerges(api.ErrBytes, 1))
	check(t, of([]string{"ab", "abab"}, join('a', 'b', 256), join('a', 256, 257)), inMerges(api.ErrBytes, 1))
	// Other parts of the same word are right.
	check(t, of([]string{"ab", "bc", "abc"}, join('a', 'b', 256), join('b', 'c', 257), join('a', 257, 258)), model.Fault{})
	check(t, of([]string{"ab", "bc", "abc"}, join('a', 'b', 256), join('b', 'c', 257), join(256, 'c', 258)), model.Fault{})
}

// A pair that stands twice has the Id of the first one, or its word isn't that of its parts: ErrTwice is never told of merges.
func TestNewOfPairsThatStandTwice(t *testing.T) {
	for rank := range 6 {
		for ahead := range rank {
			d := known()
			d.Merges[rank] = d.Merges[ahead]
			check(t, d, inMerges(api.ErrId, rank))
			d.Merges[rank].Id = known().Merges[rank].Id
			check(t, d, inMerges(api.ErrBytes, rank))
		}
	}
}

// Of one merge: the Id ahead of the parts, these ahead of the word.
func TestNewOfEachMerge(t *testing.T) {
	ids := []int{math.MinInt, -1, 0, 'a', 'b', 'c', 'd', 'e', 'x', 255, 256, 257, 258, 259, 260, 261, 262, math.MaxInt}
	seen := map[api.Errno]int{}
	for rank := range 6 {
		for _, left := range ids {
			for _, right := range ids {
				for _, id := range ids {
					d := known()
					d.Merges[rank] = join(left, right, id)
					want := plainFault(d)
					if m, f := model.New(d); f != want || (m != nil) != (want.Why == api.OK) {
						t.Fatalf("New(%s): %+v, want %+v", told(d), f, want)
					}
					seen[want.Why]++
				}
			}
		}
	}
	for _, why := range []api.Errno{api.OK, api.ErrId, api.ErrPart, api.ErrBytes} {
		if seen[why] < 6 {
			t.Errorf("only %d of %v were tried", seen[why], why)
		}
	}
}

// faults are ways in which the known model can break a rule, in the chapter's order.
var faults = []struct {
	want  model.Fault
	spoil func(d *api.Data)
}{
	{inMerges(api.ErrMany, api.MaxMerges), func(d *api.Data) { d.Merges = append(d.Merges, make([]api.Merge, api.MaxMerges)...) }},
	{inWords(api.ErrMany, 6), func(d *api.Data) { d.Words = append(d.Words, "zz") }},
	{model.Fault{Why: api.ErrMany, List: 3, Row: api.MaxSpans}, func(d *api.Data) { d.Spaces = append(d.Spaces, manySpans(api.MaxSpans, 0x3000)...) }},
	{model.Fault{Why: api.ErrRune, List: 1, Row: 2}, func(d *api.Data) { d.Letters = append(d.Letters, span(0xd800, 0xd800)) }},
	{model.Fault{Why: api.ErrOver, List: 2, Row: 1}, func(d *api.Data) { d.Numbers = append(d.Numbers, span('z', 'z')) }},
	{model.Fault{Why: api.ErrBlank, List: 3}, func(d *api.Data) { d.Spaces[1].Lo, d.Spaces[1].Hi = 33, 38 }},
	{inWords(api.ErrWord, 1), func(d *api.Data) { d.Words[1] = "a" }},
	{inWords(api.ErrTwice, 3), func(d *api.Data) { d.Words[3] = d.Words[2] }},
	{inWords(api.ErrWord, 5), func(d *api.Data) { d.Words[5] = strings.Repeat("x", 257) }},
	{inMerges(api.ErrBytes, 0), func(d *api.Data) { d.Merges[0].Right = 'c' }},
	{inMerges(api.ErrPart, 1), func(d *api.Data) { d.Merges[1].Left = 259 }},
	{inMerges(api.ErrId, 2), func(d *api.Data) { d.Merges[2].Id = 256 }},
	{inMerges(api.ErrPart, 3), func(d *api.Data) { d.Merges[3].Right = -1 }},
	{inMerges(api.ErrId, 4), func(d *api.Data) { d.Merges[4].Id = 'x' }},
	{inMerges(api.ErrBytes, 5), func(d *api.Data) { d.Merges[5].Left = 'x' }},
}

// Of two rules that are broken at once the first one is told.
func TestNewAsksRuleByRule(t *testing.T) {
	for i, first := range faults {
		for _, second := range faults[i+1:] {
			d := known()
			first.spoil(&d)
			check(t, d, first.want)
			second.spoil(&d)
			check(t, d, first.want)
		}
		d := known()
		for _, all := range faults[i:] {
			all.spoil(&d)
		}
		check(t, d, first.want)
	}
}

// spoil changes something of d, which may stay right.
func spoil(r *rand.Rand, d *api.Data) {
	n := len(d.Words)
	row, other := r.Intn(n), r.Intn(n)
	id := r.Intn(n+3) + 255
	switch r.Intn(10) {
	case 0:
		d.Merges[row].Id = id
	case 1:
		d.Merges[row].Left = id
	case 2:
		d.Merges[row].Right = id
	case 3:
		d.Merges[row], d.Merges[other] = d.Merges[other], d.Merges[row]
	case 4:
		d.Words[row], d.Words[other] = d.Words[other], d.Words[row]
	case 5:
		d.Words[row] = d.Words[other]
	case 6:
		d.Words[row] = d.Words[row][:r.Intn(len(d.Words[row]))+1]
	case 7:
		d.Merges[row] = d.Merges[other]
	case 8:
		d.Merges[row].Left, d.Merges[row].Right = d.Merges[other].Left, d.Merges[other].Right
	case 9:
		d.Merges[row].Left, d.Merges[row].Right = d.Merges[row].Right, d.Merges[row].Left
	}
}

func TestNewOfManyModels(t *testing.T) {
	r := rand.New(rand.NewSource(2))
	seen := map[model.Fault]int{}
	for range 30000 {
		d := someRight(r, 1+r.Intn(12))
		for range r.Intn(3) * min(1, len(d.Words)) {
			spoil(r, &d)
		}
		want := plainFault(d)
		if m, f := model.New(d); f != want || (m != nil) != (want.Why == api.OK) {
			t.Fatalf("New(%s): %+v, want %+v", told(d), f, want)
		}
		seen[model.Fault{Why: want.Why, List: want.List}]++
	}
	for _, f := range []model.Fault{{}, inWords(api.ErrWord, 0), inWords(api.ErrTwice, 0), inMerges(api.ErrId, 0), inMerges(api.ErrPart, 0), inMerges(api.ErrBytes, 0)} {
		if seen[f] < 300 {
			t.Errorf("only %d of %+v were tried", seen[f], f)
		}
	}
	if seen[inMerges(api.ErrTwice, 0)] > 0 {
		t.Error("a merge stands twice, and nothing else is wrong with it")
	}
}

func TestBareOfRightClasses(t *testing.T) {
	for d := range rightOnes {
		m, f := model.Bare(d.Letters, d.Numbers, d.Spaces)
		if m == nil || f != (model.Fault{}) {
			t.Fatalf("Bare(%s): %+v", told(d), f)
		}
		d.Words, d.Merges = nil, nil
		if !same(m.Data(), d) {
			t.Errorf("Bare(%s): %s", told(d), told(m.Data()))
		}
	}
}
