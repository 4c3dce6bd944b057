package recipe_test

import (
	"fmt"
	"math/rand"
	"regexp"
	"slices"
	"strconv"
	"strings"
	"testing"
	"unicode/utf8"

	"tessera/api"
	"tessera/recipe"
)

// join is a short form.
func join(left, right, id int) api.Merge { return api.Merge{Left: left, Right: right, Id: id} }

// span is a short form.
func span(lo, hi rune) api.Span { return api.Span{Lo: lo, Hi: hi} }

// of answers the data of words and merges, whose only class is that of the blank.
func of(words []string, merges ...api.Merge) api.Data {
	return api.Data{Words: words, Merges: merges, Spaces: []api.Span{span(32, 32)}}
}

// known is a right model with classes of each kind: words of words, and the word of one id behind that of a later one.
func known() api.Data {
	d := of([]string{"ab", "abcde", "abc", "de"}, join('a', 'b', 256), join(256, 'c', 258), join('d', 'e', 259), join(258, 259, 257))
	d.Letters, d.Numbers, d.Spaces = []api.Span{span('a', 'z'), span(0xe9, 0xe9)}, []api.Span{span('0', '9')}, []api.Span{span(9, 10), span(32, 32)}
	return d
}

// pairs is a right model of n merges of two bytes each, but perhaps for their number.
func pairs(n int) api.Data {
	d := of(nil)
	for i := range n {
		left, right := i/256, i%256
		d.Words = append(d.Words, string([]byte{byte(left), byte(right)}))
		d.Merges = append(d.Merges, join(left, right, 256+i))
	}
	return d
}

// rising is right by words, of 2 to most bytes, for each of so many bytes: each merge lays that byte behind the word ahead.
func rising(bytes, most int) api.Data {
	d := of(nil)
	for c := range bytes {
		left := c
		for n := 2; n <= most; n++ {
			id := 256 + len(d.Words)
			d.Words = append(d.Words, strings.Repeat(string([]byte{byte(c)}), n))
			d.Merges = append(d.Merges, join(left, c, id))
			left = id
		}
	}
	return d
}

// manySpans answers n spans of a rune each, from first on.
func manySpans(n int, first rune) []api.Span {
	var l []api.Span
	for i := range rune(n) {
		l = append(l, span(first+2*i, first+2*i))
	}
	return l
}

// greatest is a right model of long words and of as many spans as may be.
func greatest() api.Data {
	d := rising(16, api.MaxWord)
	d.Letters, d.Numbers, d.Spaces = manySpans(api.MaxSpans, 0x2000), manySpans(api.MaxSpans, 0x10fc00), append(d.Spaces, manySpans(api.MaxSpans-1, 0x2001)...)
	return d
}

// someRight answers a right model of at most n merges, whose words stand in any order.
func someRight(r *rand.Rand, n int) api.Data {
	words := []string{"a", "\"", "\\", "\x00", "\xff"}
	ids := []int{'a', '"', '\\', 0, 0xff}
	d := of(nil)
	for range n {
		i, j := r.Intn(len(words)), r.Intn(len(words))
		w := words[i] + words[j]
		if len(w) <= api.MaxWord && !slices.Contains(words, w) {
			d.Merges = append(d.Merges, join(i, j, len(words))) // by places in words, till all ids are known
			words = append(words, w)
		}
	}
	d.Words = make([]string, len(d.Merges))
	for i, at := range r.Perm(len(d.Merges)) {
		d.Words[at] = words[5+i]
		ids = append(ids, 256+at)
	}
	for i, x := range d.Merges {
		d.Merges[i] = join(ids[x.Left], ids[x.Right], ids[x.Id])
	}
	return d
}

// rightOnes hands out right models.
func rightOnes(yield func(api.Data) bool) {
	bare := known()
	bare.Words, bare.Merges = nil, nil
	all := of(nil)
	all.Letters, all.Spaces = []api.Span{span(0, 31), span(40, 0x10ffff)}, []api.Span{span(32, 38)}
	r := rand.New(rand.NewSource(1))
	for _, d := range []api.Data{
		of(nil), bare, all, known(), pairs(1), pairs(300), pairs(api.MaxMerges), rising(1, 2), rising(1, api.MaxWord), greatest(),
		of([]string{"\xff\x00", "\x00\xff", "\xff\x00\x00\xff"}, join(255, 0, 256), join(0, 255, 257), join(256, 257, 258)),
		someRight(r, 5), someRight(r, 20), someRight(r, 100),
	} {
		if !yield(d) {
			return
		}
	}
}

// printable hands out data that Print prints: right models, and what is no right one for other reasons than Print's.
func printable(yield func(api.Data) bool) {
	for d := range rightOnes {
		if !yield(d) {
			return
		}
	}
	turned := api.Data{Letters: []api.Span{span(5, 4), span(5, 4)}, Numbers: []api.Span{span(0x10ffff, 0), span(0xd7ff, 0xe000)}}
	for _, d := range []api.Data{{}, turned, pairs(api.MaxMerges + 100), rising(2, api.MaxWord+50), {Letters: manySpans(api.MaxSpans+9, 0), Spaces: manySpans(api.MaxSpans+9, 0)}} {
		if !yield(d) {
			return
		}
	}
}

// same tells whether a and b say the same, nil and empty lists being alike.
func same(a, b api.Data) bool {
	return slices.Equal(a.Words, b.Words) && slices.Equal(a.Merges, b.Merges) &&
		slices.Equal(a.Letters, b.Letters) && slices.Equal(a.Numbers, b.Numbers) && slices.Equal(a.Spaces, b.Spaces)
}

// isEmpty tells whether nothing stands in d.
func isEmpty(d api.Data) bool { return same(d, api.Data{}) }

// copied answers d in memory of its own.
func copied(d api.Data) api.Data {
	return api.Data{
		Words: slices.Clone(d.Words), Merges: slices.Clone(d.Merges),
		Letters: slices.Clone(d.Letters), Numbers: slices.Clone(d.Numbers), Spaces: slices.Clone(d.Spaces),
	}
}

// told answers x in some words, which end soon.
func told(x any) string {
	s := fmt.Sprintf("%v", x)
	switch y := x.(type) {
	case api.Data:
		s = fmt.Sprintf("%.20q, %v, %v, %v, %v", y.Words, y.Merges, y.Letters, y.Numbers, y.Spaces)
	case string:
		s = strconv.Quote(y)
	}
	if len(s) > 600 {
		return s[:600] + " .."
	}
	return s
}

// plainPlace is the place of a byte: an item is what ranging over a text meets.
func plainPlace(src string, at int) recipe.Place {
	p := recipe.Place{Byte: at, Line: 1, Column: 1}
	for i, r := range src {
		switch {
		case i >= at:
			return p
		case r == '\n':
			p.Line, p.Column = p.Line+1, 1
		default:
			p.Column++
		}
	}
	return p
}

// no is a refusal.
type no struct {
	at  int
	why api.Errno
}

// piece is a token; its kind is one byte: that of a sign, m of the name merge, c of a class's, or N, R, W, or _ for what is none; `..` is `:`.
type piece struct {
	kind byte
	at   int
	text string
}

var (
	plainBlank  = regexp.MustCompile(`^(?:[\t\n\r ]|#[^\n]*)*`)
	plainName   = regexp.MustCompile(`^[a-z]+`)
	plainNum    = regexp.MustCompile(`^(?:0|[1-9][0-9]{0,9})`)
	plainRune   = regexp.MustCompile(`^U\+(?:10[0-9A-F]{4}|[1-9A-F][0-9A-F]{4}|(?:[0-9ABCEF][0-9A-F]|D[0-7])[0-9A-F]{2})`)
	plainSign   = regexp.MustCompile(`^(?:\.\.|[{}+=])`)
	plainByte   = `(?:[ !#-\[\]-~]|\\\\|\\"|\\(?:[0189a-f][0-9a-f]|7f))` // escaped: 0 to 1f, 7f, 80 to ff
	plainWord   = regexp.MustCompile(`^"` + plainByte + `*"`)
	plainOpen   = regexp.MustCompile(`^"` + plainByte + `*(?:\\[0-9a-f]?)?$`)
	plainEscape = regexp.MustCompile(`\\(?:[\\"]|..)`)
	plainMore   = regexp.MustCompile(`^[A-Za-z0-9_]`)

	// A rule, and what it may begin with, by the kinds of its tokens.
	plainRule   = regexp.MustCompile(`^(?:mW\+W=N|c\{(?:R(?::R)?)*\})$`)
	plainBegins = regexp.MustCompile(`^(?:m|mW|mW\+|mW\+W|mW\+W=|mW\+W=N|c|c\{(?:R(?::R)?)*(?:R:|\})?)$`)
)

// plainKind is the kind of a sign or name.
func plainKind(text string) byte {
	switch text {
	case "merge":
		return 'm'
	case "letters", "numbers", "spaces":
		return 'c'
	case "..":
		return ':'
	case "{", "}", "+", "=":
		return text[0]
	}
	return '_'
}

// plainNext is the token at the front of s, which isn't empty and begins with no blank; its kind is E of a word within which s ends.
func plainNext(s string) piece {
	for _, c := range []struct {
		kind  byte
		form  *regexp.Regexp
		bound bool
	}{{'n', plainName, true}, {'N', plainNum, true}, {'R', plainRune, true}, {'W', plainWord, false}, {'s', plainSign, false}, {'E', plainOpen, false}} {
		text := c.form.FindString(s)
		if text == "" || c.bound && plainMore.MatchString(s[len(text):]) {
			continue
		}
		if c.kind == 'n' || c.kind == 's' {
			c.kind = plainKind(text)
		}
		return piece{c.kind, 0, text}
	}
	return piece{kind: '_'}
}

// plainTokens cuts src, or tells where and why it is no recipe.
func plainTokens(src string) (l []piece, n no) {
	var rule []byte // the kinds of the tokens of a rule that isn't whole yet
	at := len(plainBlank.FindString(src))
	for at < len(src) {
		x := plainNext(src[at:])
		if x.kind == 'E' {
			return nil, no{len(src), api.ErrEnd}
		}
		if rule = append(rule, x.kind); !plainBegins.Match(rule) {
			return nil, no{at, api.ErrToken}
		}
		if plainRule.Match(rule) {
			rule = nil
		}
		x.at = at
		l = append(l, x)
		at += len(x.text)
		at += len(plainBlank.FindString(src[at:]))
	}
	if len(rule) > 0 {
		return nil, no{len(src), api.ErrEnd}
	}
	return l, n
}

// plainText is the bytes that a WORD tells.
func plainText(word string) string {
	word = word[1 : len(word)-1]
	return plainEscape.ReplaceAllStringFunc(word, func(s string) string {
		if s == `\\` || s == `\"` {
			return s[1:]
		}
		n, _ := strconv.ParseUint(s[1:], 16, 8)
		return string([]byte{byte(n)})
	})
}

// plainParse is P7.1 word by word.
func plainParse(src string) (d api.Data, n no) {
	if len(src) > 1<<22 {
		return d, no{0, api.ErrLong}
	}
	l, n := plainTokens(src)
	if n.why != api.OK {
		return d, n
	}
	var merges [][]piece
	for i, x := range l {
		switch x.kind {
		case 'm':
			merges = append(merges, []piece{l[i+1], l[i+3], l[i+5]})
		case 'c':
			s := map[string]*[]api.Span{"letters": &d.Letters, "numbers": &d.Numbers, "spaces": &d.Spaces}[x.text]
			*s = append(*s, plainSpans(l[i+2:])...)
		}
	}
	words, joins, n := plainMerges(merges)
	if n.why != api.OK {
		return api.Data{}, n
	}
	d.Words, d.Merges = words, joins
	return d, n
}

// plainSpans is the spans at the front of l, which are followed by `}`.
func plainSpans(l []piece) (s []api.Span) {
	for i := 0; l[i].kind != '}'; i++ {
		n, _ := strconv.ParseInt(strings.TrimPrefix(l[i].text, "U+"), 16, 32)
		r := rune(n)
		switch {
		case l[i].kind == ':':
		case i > 0 && l[i-1].kind == ':':
			s[len(s)-1].Hi = r
		default:
			s = append(s, span(r, r))
		}
	}
	return s
}

// plainMerges is the words and the merges of what is written: two WORDs and a NUMBER each.
func plainMerges(l [][]piece) (words []string, merges []api.Merge, n no) {
	words = make([]string, len(l))
	for rank, x := range l {
		var id [2]int
		for side := range id {
			w := plainText(x[side].text)
			id[side] = -1
			if len(w) == 1 {
				id[side] = int(w[0])
			}
			for i := rank - 1; i >= 0 && id[side] < 0; i-- {
				if w == plainText(l[i][0].text)+plainText(l[i][1].text) {
					id[side] = merges[i].Id
				}
			}
			if id[side] < 0 {
				return nil, nil, no{x[side].at, api.ErrPart}
			}
		}
		number, _ := strconv.ParseInt(x[2].text, 10, 64)
		if number < 256 || number >= int64(256+len(l)) || slices.ContainsFunc(merges, func(m api.Merge) bool { return int64(m.Id) == number }) {
			return nil, nil, no{x[2].at, api.ErrId}
		}
		words[number-256] = plainText(x[0].text) + plainText(x[1].text)
		merges = append(merges, join(id[0], id[1], int(number)))
	}
	return words, merges, n
}

// plainQuote is P7.2 word by word.
func plainQuote(word string) string {
	s := `"`
	for i := range len(word) {
		switch c := word[i]; {
		case c == '"':
			s += `\"`
		case c == '\\':
			s += `\\`
		case c >= 0x20 && c <= 0x7e:
			s += string(rune(c))
		default:
			s += fmt.Sprintf(`\%02x`, c)
		}
	}
	return s + `"`
}

// plainPrint is P7.3 word by word.
func plainPrint(d api.Data) (string, api.Errno) {
	if !plainRight(d) {
		return "", api.ErrWord
	}
	text := map[int]string{}
	for c := range 256 {
		text[c] = string([]byte{byte(c)})
	}
	for i, w := range d.Words {
		text[256+i] = w
	}
	var s strings.Builder
	for _, x := range d.Merges {
		fmt.Fprintf(&s, "merge %s + %s = %d\n", plainQuote(text[x.Left]), plainQuote(text[x.Right]), x.Id)
	}
	for i, l := range [][]api.Span{d.Letters, d.Numbers, d.Spaces} {
		s.WriteString([]string{"letters", "numbers", "spaces"}[i] + " { ")
		for _, x := range l {
			if !utf8.ValidRune(x.Lo) || !utf8.ValidRune(x.Hi) {
				return "", api.ErrRune
			}
			fmt.Fprintf(&s, "U+%04X ", x.Lo)
			if x.Lo != x.Hi {
				fmt.Fprintf(&s, ".. U+%04X ", x.Hi)
			}
		}
		s.WriteString("}\n")
	}
	return s.String(), api.OK
}

// plainRight tells whether d is right by words.
func plainRight(d api.Data) bool {
	text := map[int]string{} // of the bytes and of what merges ahead made
	for c := range 256 {
		text[c] = string([]byte{byte(c)})
	}
	seen := map[string]bool{}
	for _, w := range d.Words {
		if len(w) < 2 || seen[w] {
			return false
		}
		seen[w] = true
	}
	for _, x := range d.Merges {
		left, ok := text[x.Left]
		right, too := text[x.Right]
		_, again := text[x.Id]
		if !ok || !too || again || x.Id < 256 || x.Id-256 >= len(d.Words) || d.Words[x.Id-256] != left+right {
			return false
		}
		text[x.Id] = left + right
	}
	return len(d.Words) == len(d.Merges)
}

// like holds what Parse answers of src against the chapter, and answers the data and the refusal.
func like(t *testing.T, src string) (api.Data, no) {
	t.Helper()
	d, p, why := recipe.Parse(src)
	want, n := plainParse(src)
	place := recipe.Place{}
	if n.why != api.OK {
		place = plainPlace(src, n.at)
	}
	if why != n.why || p != place || !same(d, want) {
		t.Fatalf("Parse(%s): %s, %+v, %v, want %s, %+v, %v", told(src), told(d), p, why, told(want), place, n.why)
	}
	return want, n
}

// refused holds what Parse answers of src against a refusal, and this against the chapter.
func refused(t *testing.T, src string, at int, why api.Errno) {
	t.Helper()
	d, p, got := recipe.Parse(src)
	if want := plainPlace(src, at); p != want || got != why || !isEmpty(d) {
		t.Errorf("Parse(%s): %s, %+v, %v, want %+v, %v", told(src), told(d), p, got, want, why)
	}
	if _, n := plainParse(src); n != (no{at, why}) {
		t.Errorf("plain Parse(%s): %+v, want %v at %d", told(src), n, why, at)
	}
}

// parsed holds what Parse answers of src against data, and this against the chapter.
func parsed(t *testing.T, src string, want api.Data) {
	t.Helper()
	if d, p, why := recipe.Parse(src); !same(d, want) || p != (recipe.Place{}) || why != api.OK {
		t.Errorf("Parse(%s): %s, %+v, %v, want %s", told(src), told(d), p, why, told(want))
	}
	if d, n := plainParse(src); !same(d, want) || n.why != api.OK {
		t.Errorf("plain Parse(%s): %s, %+v, want %s", told(src), told(d), n, told(want))
	}
}

// printed answers the text of d, which has to be printed as the chapter says.
func printed(t *testing.T, d api.Data) string {
	t.Helper()
	s, why := recipe.Print(d)
	if want, _ := plainPrint(d); s != want || why != api.OK || s == "" {
		t.Fatalf("Print(%s): %s, %v, want %s", told(d), told(s), why, told(want))
	}
	return s
}
