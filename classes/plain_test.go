package classes_test

import (
	"math"
	"math/rand"
	"slices"
	"testing"

	"tessera/api"
	"tessera/classes"
	"tessera/utf"
)

type list = []api.Span

// three is what New takes: letters, numbers, spaces.
type three [3]list

// span is a short form.
func span(lo, hi rune) api.Span { return api.Span{Lo: lo, Hi: hi} }

// edges are numbers about which being a rune, or of a known class, turns over.
var edges = []rune{
	math.MinInt32, -1, 0, 1, 8, 9, 10, 11, 31, 32, 33, 38, 39, 40, '/', '0', '9', ':', '`', 'a', 'z', '{', 0x7f, 0x80, 0xe8, 0xe9, 0xea,
	0xd7ff, 0xd800, 0xdbff, 0xdc00, 0xdfff, 0xe000, 0xfffc, 0xfffd, 0xfffe, 0xffff, 0x10000, 0x10ffff, 0x110000, math.MaxInt32,
}

// known are the classes of the chapter's runs.
func known() three {
	return three{{span('a', 'z')}, {span('0', '9')}, {span(9, 10), span(32, 32)}}
}

// wide are classes of runes of one to four bytes each.
func wide() three {
	return three{
		{span('a', 'z'), span(0xe9, 0xe9), span(0xd7ff, 0xe000), span(0x1f600, 0x1f602)},
		{span('0', '9'), span(0x660, 0x669), span(0x2460, 0x2469), span(0x10fffe, 0x10ffff)},
		{span(9, 10), span(32, 32), span(0xa0, 0xa0), span(0x2000, 0x200a), span(0x1f603, 0x1f603)},
	}
}

// withMark answers the known classes, and U+FFFD in the one of that number.
func withMark(number int) three {
	c := known()
	c[number-1] = append(c[number-1], span(0xfffd, 0xfffd))
	return c
}

// tables hands out right classes.
func tables(yield func(three) bool) {
	for _, c := range []three{
		known(), wide(), withMark(classes.Letters), withMark(classes.Numbers), withMark(classes.Spaces),
		{nil, nil, {span(32, 32)}},
		{nil, nil, {span(0, 38), span(40, 0x10ffff)}},
		{{span(0, 31), span(33, 38), span(40, 0x10ffff)}, nil, {span(32, 32)}},
		{nil, {span(0, 31), span(33, 38), span(40, 0x10ffff)}, {span(32, 32)}},
		{{span(0, 31)}, {span(33, 38), span(40, 0xd7ff), span(0xe000, 0xffff)}, {span(32, 32), span(0x10000, 0x10ffff)}},
	} {
		if !yield(c) {
			return
		}
	}
}

// made answers the Table of c, which has to be right.
func made(t *testing.T, c three) *classes.Table {
	t.Helper()
	x, w := classes.New(c[0], c[1], c[2])
	if x == nil || w != (classes.Wrong{}) {
		t.Fatalf("New(%v): %+v", c, w)
	}
	return x
}

// copied answers c in memory of its own.
func copied(c three) three {
	for i := range c {
		c[i] = slices.Clone(c[i])
	}
	return c
}

// longList answers n spans of a rune each, two apart, from first on.
func longList(n int, first rune) list {
	var l list
	for i := range n {
		l = append(l, span(first+2*rune(i), first+2*rune(i)))
	}
	return l
}

// plainRune is chapter 3's word: 0 to 0x10ffff, but 0xd800 to 0xdfff.
func plainRune(r rune) bool {
	return r >= 0 && r <= 0x10ffff && !(r >= 0xd800 && r <= 0xdfff)
}

// plainHas tells whether the rune r lies in a span of l.
func plainHas(l list, r rune) bool {
	return plainRune(r) && slices.ContainsFunc(l, func(s api.Span) bool { return s.Lo <= r && r <= s.Hi })
}

// plainRow answers what chapter 3 refuses of l's row i.
func plainRow(l list, i int) api.Errno {
	if !plainRune(l[i].Lo) || !plainRune(l[i].Hi) {
		return api.ErrRune
	}
	if l[i].Hi < l[i].Lo || i > 0 && l[i].Lo <= l[i-1].Hi {
		return api.ErrOrder
	}
	return api.OK
}

// plainMeets tells whether any rune of s, tried one by one, lies in a list of ahead.
func plainMeets(s api.Span, ahead []list) bool {
	for r := s.Lo; r <= s.Hi; r++ {
		for _, l := range ahead {
			if plainHas(l, r) {
				return true
			}
		}
	}
	return false
}

// plainWrong is P4.1 word by word.
func plainWrong(c three) classes.Wrong {
	for i, l := range c {
		if len(l) > api.MaxSpans {
			return classes.Wrong{Why: api.ErrMany, List: i + 1, Row: api.MaxSpans}
		}
	}
	for i, l := range c {
		for row := range l {
			if why := plainRow(l, row); why != api.OK {
				return classes.Wrong{Why: why, List: i + 1, Row: row}
			}
		}
	}
	for i, l := range c {
		for row, s := range l {
			if plainMeets(s, c[:i]) {
				return classes.Wrong{Why: api.ErrOver, List: i + 1, Row: row}
			}
		}
	}
	if !plainHas(c[2], 0x20) || plainHas(c[0], 0x27) || plainHas(c[1], 0x27) || plainHas(c[2], 0x27) {
		return classes.Wrong{Why: api.ErrBlank, List: classes.Spaces}
	}
	return classes.Wrong{}
}

// plainOf is P4.2 word by word.
func plainOf(c three, r rune) int {
	for i, kind := range []int{api.Letter, api.Number, api.Space} {
		if plainHas(c[i], r) {
			return kind
		}
	}
	return api.Other
}

// plainKind is P4.2 word by word.
func plainKind(c three, x utf.Item) int {
	if x.Bad {
		return api.Other
	}
	return plainOf(c, x.Rune)
}

// plainRuns is P4.3 word by word: behind each place the run goes on as long as the items are of its kind.
func plainRuns(c three, s string) []classes.Run {
	items := slices.Collect(utf.Items(s))
	var out []classes.Run
	for i := 0; i < len(items); {
		n := 1
		for i+n < len(items) && plainKind(c, items[i+n]) == plainKind(c, items[i]) {
			n++
		}
		last := items[i+n-1]
		out = append(out, run(plainKind(c, items[i]), items[i].From, last.From+last.Bytes, n))
		i += n
	}
	return out
}

// run is a short form.
func run(kind, from, to, items int) classes.Run {
	return classes.Run{Kind: kind, Piece: api.Piece{From: from, To: to}, Items: items}
}

// someThree answers lists of small runes about U+0020 and U+0027, some of them right.
func someThree(r *rand.Rand) three {
	var c three
	owner := r.Intn(3)
	for at := rune(28); at < 44; at++ {
		if r.Intn(3) == 0 {
			owner = r.Intn(4)
		}
		if at == 32 && r.Intn(8) > 0 {
			owner = 2
		}
		if owner < 3 && (at != 39 || r.Intn(8) == 0) {
			c[owner] = append(c[owner], span(at, at))
		}
	}
	for range r.Intn(3) { // some lists are spoilt
		i, at := r.Intn(3), 28+rune(r.Intn(16))
		s := span(at, at+rune(r.Intn(4))-rune(r.Intn(2)))
		c[i] = slices.Insert(c[i], r.Intn(len(c[i])+1), s)
		if r.Intn(2) == 0 {
			slices.SortFunc(c[i], func(a, b api.Span) int { return int(a.Lo - b.Lo) })
		}
	}
	return c
}
