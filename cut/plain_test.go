package cut_test

import (
	"math/rand"
	"slices"
	"strings"
	"testing"

	"tessera/api"
	"tessera/cut"
	"tessera/model"
	"tessera/utf"
)

// span is a short form.
func span(lo, hi rune) api.Span { return api.Span{Lo: lo, Hi: hi} }

// token is a short form.
func token(from, to, sort int) cut.Token {
	return cut.Token{Piece: api.Piece{From: from, To: to}, Sort: sort}
}

// known are the classes of the chapter's runs.
func known() api.Data {
	return api.Data{
		Letters: []api.Span{span('a', 'z'), span(0xe9, 0xe9)},
		Numbers: []api.Span{span('0', '9')},
		Spaces:  []api.Span{span(9, 10), span(32, 32)},
	}
}

// least are the least classes that may be: all but U+0020 are others.
func least() api.Data { return api.Data{Spaces: []api.Span{span(32, 32)}} }

// wide are classes of runes of one to four bytes each.
func wide() api.Data {
	return api.Data{
		Letters: []api.Span{span('a', 'z'), span(0xe9, 0xe9), span(0x20ac, 0x20ac), span(0x1f600, 0x1f600)},
		Numbers: []api.Span{span('0', '9'), span(0x660, 0x669), span(0x1d7ce, 0x1d7d7)},
		Spaces:  []api.Span{span(9, 10), span(32, 32), span(0xa0, 0xa0), span(0x2003, 0x2003), span(0x1f603, 0x1f603)},
	}
}

// mixed are classes in which the bytes of the short endings are of all kinds.
func mixed() api.Data {
	return api.Data{
		Letters: []api.Span{span('a', 'a'), span('r', 'r')},
		Numbers: []api.Span{span('1', '1'), span('d', 'e')},
		Spaces:  []api.Span{span(32, 32), span('l', 'm'), span('s', 's'), span('v', 'v')},
	}
}

// withMark answers the known classes, and U+FFFD in the one of that number, from 0 on.
func withMark(number int) api.Data {
	d := known()
	l := []*[]api.Span{&d.Letters, &d.Numbers, &d.Spaces}[number]
	*l = append(*l, span(0xfffd, 0xfffd))
	return d
}

// datas hands out right models.
func datas(yield func(api.Data) bool) {
	merged := known()
	merged.Words = []string{"it", "'s", " a", "  "}
	merged.Merges = []api.Merge{{Left: 'i', Right: 't', Id: 256}, {Left: '\'', Right: 's', Id: 257}, {Left: ' ', Right: 'a', Id: 258}, {Left: ' ', Right: ' ', Id: 259}}
	rest := []api.Span{span(0, 31), span(33, 38), span(40, 0x10ffff)}
	for _, d := range []api.Data{
		known(), merged, least(), wide(), mixed(), withMark(0), withMark(1), withMark(2),
		{Letters: rest, Spaces: []api.Span{span(32, 32)}},
		{Numbers: rest, Spaces: []api.Span{span(32, 32)}},
		{Spaces: []api.Span{span(0, 38), span(40, 0x10ffff)}},
	} {
		if !yield(d) {
			return
		}
	}
}

// parts are pieces of texts: `'` and what may stand behind it, items of all kinds, bytes that are none.
var parts = []string{
	"'", "s", "t", "m", "d", "r", "e", "v", "l", "a", "\u00e9", "1", "!", " ", "\n", "\u00a0", "\u2003", "\U0001f603", "\u20ac", "\ufffd", "\xff", "\xe2\x82",
}

// made is the model of d.
func made(t *testing.T, d api.Data) *model.Model {
	t.Helper()
	m, f := model.New(d)
	if m == nil {
		t.Fatalf("no model of %v: %+v", d, f)
	}
	return m
}

// item is one of a text's, and its kind.
type item struct {
	text string
	kind int
}

// plainItems answers the items of s, and their kinds by d.
func plainItems(d api.Data, s string) []item {
	var l []item
	for x := range utf.Items(s) {
		kind := api.Other
		for i, spans := range [][]api.Span{d.Letters, d.Numbers, d.Spaces} {
			if !x.Bad && slices.ContainsFunc(spans, func(p api.Span) bool { return p.Lo <= x.Rune && x.Rune <= p.Hi }) {
				kind = []int{api.Letter, api.Number, api.Space}[i]
			}
		}
		l = append(l, item{s[x.From : x.From+x.Bytes], kind})
	}
	return l
}

// plain is the chapter's cutting word by word.
func plain(d api.Data, s string) []cut.Token {
	var out []cut.Token
	from := 0
	for l := plainItems(d, s); len(l) > 0; {
		n, sort := plainFirst(l)
		to := from
		for _, x := range l[:n] {
			to += len(x.text)
		}
		out = append(out, token(from, to, sort))
		from, l = to, l[n:]
	}
	return out
}

// plainFirst answers how many items the first pre-token of l has, and its sort.
func plainFirst(l []item) (int, int) {
	if n := plainShort(l); n > 0 {
		return n, cut.Short
	}
	if n := plainRun(l); n > 0 {
		return n, map[int]int{api.Letter: cut.Word, api.Number: cut.Figure, api.Other: cut.Sign}[l[n-1].kind]
	}
	return plainSpaces(l), cut.Blank
}

// plainShort is rule 1: how many items it takes, 0 if it can't.
func plainShort(l []item) int {
	is := func(i int, texts ...string) bool { return i < len(l) && slices.Contains(texts, l[i].text) }
	switch {
	case is(0, "'") && is(1, "s", "t", "m", "d"):
		return 2
	case is(0, "'") && (is(1, "r", "v") && is(2, "e") || is(1, "l") && is(2, "l")):
		return 3
	}
	return 0
}

// plainRun is rule 2: how many items it takes, 0 if it can't.
func plainRun(l []item) int {
	at := -1 // the item that is no space
	if l[0].kind != api.Space {
		at = 0
	} else if l[0].text == " " && len(l) > 1 && l[1].kind != api.Space {
		at = 1
	}
	if at < 0 {
		return 0
	}
	n := at + 1
	for n < len(l) && l[n].kind == l[at].kind {
		n++
	}
	return n
}

// plainSpaces is rule 3: how many items it takes.
func plainSpaces(l []item) int {
	n := slices.IndexFunc(l, func(x item) bool { return x.kind != api.Space })
	switch {
	case n < 0:
		return len(l)
	case n >= 2:
		return n - 1
	}
	return n
}

// check holds what both calls answer of s against the chapter.
func check(t *testing.T, d api.Data, m *model.Model, s string) {
	t.Helper()
	want := plain(d, s)
	if got, why := cut.Tokens(m, s); !slices.Equal(got, want) || why != api.OK {
		t.Fatalf("Tokens of %s: %v, %v, want %v", short(s), head(got), why, head(want))
	}
	if got := slices.Collect(cut.All(m, s)); !slices.Equal(got, want) {
		t.Fatalf("All of %s: %v, want %v", short(s), head(got), head(want))
	}
}

// checkIs holds what both calls answer of s against the pieces and sorts that are wanted, one behind the other.
func checkIs(t *testing.T, d api.Data, s string, want ...piece) {
	t.Helper()
	var l []cut.Token
	at := 0
	for _, x := range want {
		l = append(l, token(at, at+len(x.text), x.sort))
		at += len(x.text)
	}
	m := made(t, d)
	if got, why := cut.Tokens(m, s); !slices.Equal(got, l) || why != api.OK {
		t.Errorf("Tokens of %s: %v, %v, want %v", short(s), head(got), why, head(l))
	}
	check(t, d, m, s)
	checkAnew(t, m, s)
}

// piece is what a pre-token should be.
type piece struct {
	text string
	sort int
}

// checkAnew asks that the tokens of s are s, none is empty, each begins and ends at items (P12.3),
// and that the rest of s, cut anew from where one of them ends, is cut alike (P12.4).
func checkAnew(t *testing.T, m *model.Model, s string) {
	t.Helper()
	items := map[int]int{len(s): 0} // the places at which one begins, and the end
	for x := range utf.Items(s) {
		items[x.From] = x.Bytes
	}
	l, _ := cut.Tokens(m, s)
	at := 0
	for i, x := range l {
		_, begins := items[x.From]
		_, ends := items[x.To]
		if x.From != at || x.To <= x.From || x.To > len(s) || !begins || !ends {
			t.Fatalf("Tokens of %s: %v at %d", short(s), x, at)
		}
		at = x.To
		rest, why := cut.Tokens(m, s[at:])
		if !slices.EqualFunc(rest, l[i+1:], func(a, b cut.Token) bool { return a == token(b.From-at, b.To-at, b.Sort) }) || why != api.OK {
			t.Fatalf("%s cut anew at %d: %v, %v, want %v moved", short(s), at, head(rest), why, head(l[i+1:]))
		}
	}
	if at != len(s) {
		t.Fatalf("Tokens of %s end at %d of %d", short(s), at, len(s))
	}
}

// someText answers n pieces, most of them several times.
func someText(r *rand.Rand, n int) string {
	var b strings.Builder
	for range n {
		b.WriteString(strings.Repeat(parts[r.Intn(len(parts))], 1+r.Intn(3)))
	}
	return b.String()
}

// textsOf hands out each text of n pieces of l.
func textsOf(l []string, n int) func(yield func(string) bool) {
	return func(yield func(string) bool) { layBehind("", l, n, yield) }
}

// layBehind hands out s with each n pieces of l behind it; it answers false when it was left.
func layBehind(s string, l []string, n int, yield func(string) bool) bool {
	if n == 0 {
		return yield(s)
	}
	for _, p := range l {
		if !layBehind(s+p, l, n-1, yield) {
			return false
		}
	}
	return true
}
