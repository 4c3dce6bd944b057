package classes_test

import (
	"math/rand"
	"slices"
	"testing"

	"tessera/api"
	"tessera/classes"
	"tessera/utf"
)

// check holds what New answers against want.
func check(t *testing.T, c three, want classes.Wrong) {
	t.Helper()
	if x, w := classes.New(c[0], c[1], c[2]); w != want || (x != nil) != (want.Why == api.OK) {
		t.Errorf("New(%v): %v, %+v, want %+v", c, x, w, want)
	}
	if plain := plainWrong(c); plain != want {
		t.Errorf("plain New(%v): %+v, want %+v", c, plain, want)
	}
}

// P4.1

func TestNumbersOfLists(t *testing.T) {
	if classes.Letters != 1 || classes.Numbers != 2 || classes.Spaces != 3 {
		t.Error(classes.Letters, classes.Numbers, classes.Spaces)
	}
}

func TestNewOfRightLists(t *testing.T) {
	for c := range tables {
		check(t, c, classes.Wrong{})
	}
}

func TestNewOfTheLongestLists(t *testing.T) {
	for i := range 3 {
		c := three{2: {span(32, 32)}}
		c[i] = append(c[i], longList(api.MaxSpans-len(c[i]), 1000)...)
		check(t, c, classes.Wrong{})
		c[i] = append(c[i], span(5000, 5000))
		check(t, c, classes.Wrong{Why: api.ErrMany, List: i + 1, Row: api.MaxSpans})
		c[i] = append(c[i], longList(3*api.MaxSpans, 6000)...)
		check(t, c, classes.Wrong{Why: api.ErrMany, List: i + 1, Row: api.MaxSpans})
	}
	spaces := append(list{span(32, 32)}, longList(api.MaxSpans-1, 5001)...)
	all := three{longList(api.MaxSpans, 1000), longList(api.MaxSpans, 1001), spaces}
	check(t, all, classes.Wrong{})
	all[2][api.MaxSpans-1] = span(1000+2*(api.MaxSpans-1), 9000)
	check(t, all, classes.Wrong{Why: api.ErrOrder, List: classes.Spaces, Row: api.MaxSpans - 1})
	all[1][api.MaxSpans-1].Lo = 1000 + 2*(api.MaxSpans-1)
	check(t, three{all[0], all[1], {span(32, 32)}}, classes.Wrong{Why: api.ErrOver, List: classes.Numbers, Row: api.MaxSpans - 1})
}

func TestNewOfListsThatSpansRefuses(t *testing.T) {
	for i := range 3 {
		for _, b := range []struct {
			s   api.Span
			why api.Errno
		}{
			{span(5, 4), api.ErrOrder},
			{span(32, 33), api.ErrOrder}, // not above the row ahead, where there is one
			{span(-1, 5000), api.ErrRune},
			{span(5000, 0x110000), api.ErrRune},
			{span(0xd800, 0xe000), api.ErrRune},
			{span(5000, 0xdfff), api.ErrRune},
			{span(5000, -1), api.ErrRune},
		} {
			for _, ahead := range []list{{span(32, 32)}, {span(20, 20), span(32, 32), span(4000, 4999)}} {
				c := three{2: {span(32, 32)}}
				c[i] = append(slices.Clone(ahead), b.s)
				check(t, c, classes.Wrong{Why: b.why, List: i + 1, Row: len(ahead)})
				c[i] = append(c[i], span(-7, -7)) // the first place is told
				check(t, c, classes.Wrong{Why: b.why, List: i + 1, Row: len(ahead)})
			}
		}
	}
}

func TestNewOfListsThatMeet(t *testing.T) {
	blank := span(32, 32)
	numbers := classes.Wrong{Why: api.ErrOver, List: classes.Numbers}
	spaces := classes.Wrong{Why: api.ErrOver, List: classes.Spaces}
	at := func(w classes.Wrong, row int) classes.Wrong {
		w.Row = row
		return w
	}
	check(t, three{{span(48, 57)}, {span(48, 57)}, {blank}}, numbers)
	check(t, three{{span(48, 57)}, {span(40, 47), span(57, 60)}, {blank}}, at(numbers, 1))
	check(t, three{{span(48, 57)}, {span(40, 47), span(58, 60)}, {blank}}, classes.Wrong{})
	check(t, three{{span(48, 57)}, {span(1, 2), span(40, 48), span(57, 60)}, {blank}}, at(numbers, 1))
	check(t, three{{span(1, 5)}, nil, {span(3, 3), blank}}, spaces)
	check(t, three{nil, {span(50, 55)}, {span(3, 3), blank, span(55, 55)}}, at(spaces, 2))
	// Of spans that meet the list ahead and the one ahead of that the first one is told.
	check(t, three{{span(65, 70)}, {span(48, 57)}, {span(9, 10), blank, span(50, 50), span(66, 66)}}, at(spaces, 2))
	check(t, three{{span(48, 57)}, {span(65, 70)}, {span(9, 10), blank, span(50, 50), span(66, 66)}}, at(spaces, 2))
	check(t, three{{span(9, 9)}, {span(66, 66)}, {span(9, 10), blank, span(66, 66)}}, spaces)
	check(t, three{{span(66, 66)}, {span(9, 9)}, {span(9, 10), blank, span(66, 66)}}, spaces)
	check(t, three{{span(60, 60)}, {span(70, 70)}, {blank, span(60, 70)}}, at(spaces, 1))
	// The list ahead is told ahead of the one behind it, whatever their rows.
	check(t, three{{span(65, 70)}, {span(1, 2), span(48, 57), span(70, 71)}, {span(1, 1), blank}}, at(numbers, 2))
	// A span over the surrogates meets what lies about them, and nothing between.
	check(t, three{{span(0xd7ff, 0xe000)}, {span(0xe000, 0xe001)}, {blank}}, numbers)
	check(t, three{{span(0xd700, 0xd7ff)}, {span(0xe000, 0xe001)}, {blank}}, classes.Wrong{})
}

func TestNewAsksForBlankAndQuote(t *testing.T) {
	blank := classes.Wrong{Why: api.ErrBlank, List: classes.Spaces}
	check(t, three{}, blank)
	check(t, three{{span('a', 'z')}, {span('0', '9')}, {span(9, 31), span(33, 38)}}, blank)
	check(t, three{{span(32, 32)}, nil, nil}, blank)
	check(t, three{nil, {span(32, 32)}, {span(9, 10)}}, blank)
	check(t, three{nil, nil, {span(32, 38), span(40, 41)}}, classes.Wrong{})
	for i := range 3 {
		for _, s := range []api.Span{span(39, 39), span(33, 39), span(39, 50), span(34, 0x10ffff)} {
			c := three{2: {span(32, 32)}}
			c[i] = append(c[i], s)
			check(t, c, blank)
			c[2] = c[2][1:] // and no U+0020
			check(t, c, blank)
		}
	}
	check(t, three{{span(32, 32)}, nil, {span(32, 32)}}, classes.Wrong{Why: api.ErrOver, List: classes.Spaces})
	check(t, three{{span(39, 39)}, {span(39, 39)}, {span(32, 32)}}, classes.Wrong{Why: api.ErrOver, List: classes.Numbers})
}

// put lays spans into the list i, which goes on rising if they can.
func put(c *three, i int, l ...api.Span) {
	c[i] = append(c[i], l...)
	slices.SortStableFunc(c[i], func(a, b api.Span) int { return int(a.Lo - b.Lo) })
}

// faults are ways in which the list i can break a rule and no other one, in the rules' order.
var faults = []struct {
	why   api.Errno
	spoil func(c *three, i int)
}{
	{api.ErrMany, func(c *three, i int) { put(c, i, longList(api.MaxSpans+1, 0x20000+0x1000*rune(i))...) }},
	{api.ErrRune, func(c *three, i int) { put(c, i, span(0xd800, 0xd900)) }},
	{api.ErrOver, func(c *three, i int) {
		put(c, i, span(0x1000+rune(i), 0x1000+rune(i)))
		put(c, i-1, span(0x1000+rune(i), 0x1000+rune(i)))
	}},
	{api.ErrBlank, func(c *three, i int) { put(c, i, span('\'', '\'')) }},
}

// Of two faults the one of the first rule is told, of one rule the one of the first list.
func TestNewAsksRuleByRule(t *testing.T) {
	for f, first := range faults {
		for _, second := range faults[f:] {
			for i := range 3 {
				for j := range 3 {
					if first.why == api.ErrOver && i == 0 || second.why == api.ErrOver && j == 0 {
						continue // nothing lies ahead of the letters
					}
					if first.why == api.ErrBlank && i != j {
						continue // U+0027 in two lists: these meet
					}
					c := three{{span('a', 'b')}, {span('0', '9')}, {span(32, 32)}}
					first.spoil(&c, i)
					at := i + 1
					if first.why != second.why || i != j {
						second.spoil(&c, j)
					}
					if first.why == second.why {
						at = min(i, j) + 1
					}
					if first.why == api.ErrBlank {
						at = classes.Spaces
					}
					if _, w := classes.New(c[0], c[1], c[2]); w.Why != first.why || w.List != at {
						t.Errorf("%v in %d and %v in %d: %+v", first.why, i, second.why, j, w)
					}
					check(t, c, plainWrong(c))
				}
			}
		}
	}
}

func TestNewOfManyLists(t *testing.T) {
	r := rand.New(rand.NewSource(1))
	seen := map[classes.Wrong]int{}
	for range 60000 {
		c := someThree(r)
		want := plainWrong(c)
		x, w := classes.New(c[0], c[1], c[2])
		if w != want || (x != nil) != (want.Why == api.OK) {
			t.Fatalf("New(%v): %+v, want %+v", c, w, want)
		}
		seen[classes.Wrong{Why: w.Why, List: w.List}]++
		for at := rune(26); x != nil && at < 48; at++ {
			if got, want := x.Of(at), plainOf(c, at); got != want {
				t.Fatalf("%v: Of(%d): %d, want %d", c, at, got, want)
			}
		}
	}
	for _, w := range []classes.Wrong{
		{},
		{Why: api.ErrOrder, List: classes.Letters}, {Why: api.ErrOrder, List: classes.Numbers}, {Why: api.ErrOrder, List: classes.Spaces},
		{Why: api.ErrOver, List: classes.Numbers}, {Why: api.ErrOver, List: classes.Spaces},
		{Why: api.ErrBlank, List: classes.Spaces},
	} {
		if seen[w] < 100 {
			t.Errorf("only %d of %+v were tried", seen[w], w)
		}
	}
}

// P4.2

func TestOfKnownClasses(t *testing.T) {
	x := made(t, known())
	for _, c := range []struct {
		r    rune
		want int
	}{
		{'a', api.Letter}, {'z', api.Letter}, {'`', api.Other}, {'{', api.Other}, {'A', api.Other},
		{'0', api.Number}, {'9', api.Number}, {'/', api.Other}, {':', api.Other},
		{9, api.Space}, {10, api.Space}, {32, api.Space}, {8, api.Other}, {11, api.Other}, {31, api.Other}, {33, api.Other},
		{'\'', api.Other}, {0x20ac, api.Other}, {0xfffd, api.Other}, {0, api.Other}, {0x10ffff, api.Other},
		{-1, api.Other}, {0xd800, api.Other}, {0xdfff, api.Other}, {0x110000, api.Other}, {-1 << 31, api.Other}, {1<<31 - 1, api.Other},
	} {
		if got := x.Of(c.r); got != c.want {
			t.Errorf("Of(%#x): %d, want %d", c.r, got, c.want)
		}
	}
}

func TestOfAboutEachEnd(t *testing.T) {
	for c := range tables {
		x := made(t, c)
		asked := slices.Clone(edges)
		for _, s := range slices.Concat(c[0], c[1], c[2]) {
			asked = append(asked, s.Lo-1, s.Lo, s.Lo+1, s.Lo+(s.Hi-s.Lo)/2, s.Hi-1, s.Hi, s.Hi+1)
		}
		for _, r := range asked {
			if got, want := x.Of(r), plainOf(c, r); got != want {
				t.Errorf("%v: Of(%#x): %d, want %d", c, r, got, want)
			}
		}
	}
}

// A span over the surrogates holds none of them.
func TestOfWhatIsNoRune(t *testing.T) {
	for i := range 3 {
		c := three{2: {span(32, 32)}}
		c[i] = append(c[i], span(40, 0x10ffff))
		x := made(t, c)
		for _, r := range []rune{-1 << 31, -1, 0xd800, 0xdabc, 0xdfff, 0x110000, 1<<31 - 1} {
			if x.Of(r) != api.Other || x.Kind(utf.Item{Bytes: 3, Rune: r}) != api.Other {
				t.Errorf("%#x is of the kind %d", r, x.Of(r))
			}
		}
		for _, r := range []rune{40, 0xd7ff, 0xe000, 0xfffd, 0x10ffff} {
			if x.Of(r) != api.Letter+i {
				t.Errorf("%#x is of the kind %d", r, x.Of(r))
			}
		}
	}
}

func TestKindOfItems(t *testing.T) {
	for c := range tables {
		x := made(t, c)
		for _, r := range edges {
			if got, want := x.Kind(utf.Item{From: 7, Bytes: 2, Rune: r}), plainOf(c, r); got != want {
				t.Errorf("%v: Kind of %#x: %d, want %d", c, r, got, want)
			}
			if got := x.Kind(utf.Item{From: 7, Bytes: 1, Rune: r, Bad: true}); got != api.Other {
				t.Errorf("%v: Kind of a bad byte, with %#x: %d", c, r, got)
			}
		}
	}
}

// A bad byte's Rune is U+FFFD, but it is of no list that has it.
func TestKindOfBadBytesAndMarks(t *testing.T) {
	for number, kind := range map[int]int{classes.Letters: api.Letter, classes.Numbers: api.Number, classes.Spaces: api.Space} {
		x := made(t, withMark(number))
		var got []int
		for y := range utf.Items("\xff\ufffd\xef\xef\xbf\ufffd") {
			got = append(got, x.Kind(y))
		}
		if want := []int{api.Other, kind, api.Other, api.Other, api.Other, kind}; !slices.Equal(got, want) {
			t.Errorf("U+FFFD in the list %d: %v, want %v", number, got, want)
		}
		if x.Of(0xfffd) != kind {
			t.Errorf("U+FFFD in the list %d: Of: %d", number, x.Of(0xfffd))
		}
	}
}
