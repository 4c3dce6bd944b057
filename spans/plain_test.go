package spans_test

import (
	"math"
	"math/rand"
	"slices"

	"tessera/api"
)

type list = []api.Span

// span is a short form.
func span(lo, hi rune) api.Span { return api.Span{Lo: lo, Hi: hi} }

// edges are numbers about which being a rune, or an int of 32 bits, turns over.
var edges = []rune{
	math.MinInt32, math.MinInt32 + 1, -2, -1, 0, 1, 2, 0xd7fe, 0xd7ff, 0xd800, 0xdbff, 0xdc00, 0xdfff, 0xe000, 0xe001,
	0xfffd, 0x10fffe, 0x10ffff, 0x110000, math.MaxInt32 - 1, math.MaxInt32,
}

// plainRune is the chapter's word: 0 to 0x10ffff, but 0xd800 to 0xdfff.
func plainRune(r rune) bool {
	return r >= 0 && r <= 0x10ffff && !(r >= 0xd800 && r <= 0xdfff)
}

// plainRight is P3.1 word by word.
func plainRight(l list) (int, api.Errno) {
	for i := range l {
		if !plainRune(l[i].Lo) || !plainRune(l[i].Hi) {
			return i, api.ErrRune
		}
		if l[i].Hi < l[i].Lo {
			return i, api.ErrOrder
		}
		if i > 0 && !(l[i].Lo > l[i-1].Hi) {
			return i, api.ErrOrder
		}
	}
	return 0, api.OK
}

// plainIn is P3.2 word by word.
func plainIn(l list, r rune) bool {
	for _, s := range l {
		if plainRune(r) && s.Lo <= r && r <= s.Hi {
			return true
		}
	}
	return false
}

// plainAll tries every rune there is.
func plainAll(l list) []rune {
	var out []rune
	for r := rune(0); r <= 0x10ffff; r++ {
		if plainIn(l, r) {
			out = append(out, r)
		}
	}
	return out
}

// plainMeet is P3.5 word by word: the spans' runes are held against each other, one by one.
func plainMeet(a, b list) (int, bool) {
	for i, s := range a {
		for r := s.Lo; r <= s.Hi; r++ {
			if plainIn(b, r) {
				return i, true
			}
		}
	}
	return 0, false
}

// edgeSpans hands out every span between two edges, right or not.
func edgeSpans(yield func(api.Span) bool) {
	for _, lo := range edges {
		for _, hi := range edges {
			if !yield(span(lo, hi)) {
				return
			}
		}
	}
}

// rightLists hands out lists that Right takes: known ones, and ones about the edges of small and great runes.
func rightLists(yield func(list) bool) {
	known := []list{
		nil, {},
		{span(0, 0)}, {span(0, 0x10ffff)}, {span(0x10ffff, 0x10ffff)}, {span(0xd7ff, 0xe000)}, {span(0, 0xd7ff), span(0xe000, 0x10ffff)},
		{span('A', 'Z'), span('a', 'z')}, {span(1, 2), span(3, 3), span(4, 9)}, {span(0, 0), span(0x10ffff, 0x10ffff)},
		{span(65, 90), span(0xd7ff, 0xe000)}, {span(0xd000, 0xd7ff), span(0xe000, 0xe000), span(0xffff, 0x10000)},
	}
	for _, l := range known {
		if !yield(l) {
			return
		}
	}
	r := rand.New(rand.NewSource(1))
	for n := range 300 {
		first := []rune{0, 0xd7f0, 0x10ffd0}[n%3]
		if !yield(someList(r, first, 48)) {
			return
		}
	}
}

// someList answers a list that Right takes, of runes from first on, room of them at most.
func someList(r *rand.Rand, first rune, room int) list {
	var ends []rune
	for at := range rune(room) {
		// The runes that follow the last one below the surrogates are those above them.
		if first <= 0xd7ff && first+at > 0xd7ff {
			at += 0x800
		}
		if r.Intn(4) == 0 {
			ends = append(ends, first+at)
		}
	}
	var l list
	for len(ends) > 0 {
		n := min(1+r.Intn(2), len(ends)) // a span of one rune, or from one to another
		l = append(l, span(ends[0], ends[n-1]))
		ends = ends[n:]
	}
	return l
}

// longList answers as many spans as a class may have, each of three runes, five apart.
func longList() list {
	var l list
	for i := range rune(api.MaxSpans) {
		l = append(l, span(5*i+1, 5*i+3))
	}
	return l
}

// wrongLists hands out lists that Right refuses, each for a cause of its own.
func wrongLists(yield func(list) bool) {
	for s := range edgeSpans {
		if _, why := plainRight(list{s}); why != api.OK && !yield(list{s}) {
			return
		}
	}
	whole := span(math.MinInt32, math.MaxInt32)
	for _, l := range []list{
		slices.Repeat(list{whole}, 3000),
		slices.Repeat(list{span(0, 0x10ffff)}, 3000),
		slices.Repeat(list{span(0x10ffff, math.MaxInt32)}, 3000),
		slices.Repeat(list{span(math.MinInt32, 0)}, 3000),
		{span(9, 12), span(5, 6), span(1, 2)},
		{span(1, 9), span(4, 12), span(2, 3)},
		{span(5, 4), span(4, 5), span(5, 4)},
		{span(0xd800, 0xdfff), span(0xd900, 0xda00)},
		{span(math.MaxInt32, math.MinInt32), whole, span(-1, -1)},
	} {
		if !yield(l) {
			return
		}
	}
}
