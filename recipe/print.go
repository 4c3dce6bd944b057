package recipe

import (
	"strconv"
	"strings"

	"tessera/api"
)

// Quote answers the word of a recipe whose bytes are those of word.
func Quote(word string) string {
	b := []byte{'"'}
	for _, c := range []byte(word) {
		switch {
		case c == '"' || c == '\\':
			b = append(b, '\\', c)
		case isShown(int(c)):
			b = append(b, c)
		default:
			b = append(b, '\\', smallDigits[c>>4], smallDigits[c&15])
		}
	}
	return string(append(b, '"'))
}

// Print answers the recipe of d, or why there is none.
func Print(d api.Data) (string, api.Errno) {
	wordOf := func(id int) string {
		if id < firstWord {
			return string([]byte{byte(id)})
		}
		return d.Words[id-firstWord]
	}
	if len(d.Words) != len(d.Merges) || !areUnlike(d.Words) || !areMade(d.Merges, wordOf) {
		return "", api.ErrWord
	}
	if !areRunes(d.Letters) || !areRunes(d.Numbers) || !areRunes(d.Spaces) {
		return "", api.ErrRune
	}
	var b strings.Builder
	for _, x := range d.Merges {
		writeLine(&b, merge, Quote(wordOf(x.Left)), "+", Quote(wordOf(x.Right)), "=", strconv.Itoa(x.Id))
	}
	writeLine(&b, class(letters, d.Letters)...)
	writeLine(&b, class(numbers, d.Numbers)...)
	writeLine(&b, class(spaces, d.Spaces)...)
	return b.String(), api.OK
}

// writeLine writes tokens as a line.
func writeLine(b *strings.Builder, tokens ...string) {
	for i, t := range tokens {
		if i > 0 {
			b.WriteByte(' ')
		}
		b.WriteString(t)
	}
	b.WriteByte('\n')
}

// class answers the tokens of a rule of spans.
func class(name string, l []api.Span) []string {
	tokens := []string{name, "{"}
	for _, s := range l {
		tokens = append(tokens, runeToken(s.Lo))
		if s.Hi != s.Lo {
			tokens = append(tokens, upTo, runeToken(s.Hi))
		}
	}
	return append(tokens, "}")
}

// runeToken answers the token of r.
func runeToken(r rune) string {
	var digits string
	for n := int(r); n > 0 || len(digits) < leastOfRune; n >>= 4 {
		digits = capitalDigits[n&15:n&15+1] + digits
	}
	return runeMark + digits
}

// areUnlike tells whether no word stands twice.
func areUnlike(words []string) bool {
	rows := map[string]int{}
	for row, w := range words {
		rows[w] = row
	}
	return len(rows) == len(words)
}

// areMade tells whether each of merges makes one of as many words, one that none ahead makes, of parts that are made.
// So each word is made; that it has two bytes or more needs no asking, since each part has one.
func areMade(merges []api.Merge, wordOf func(int) string) bool {
	made := make([]bool, firstWord+len(merges))
	for id := range firstWord {
		made[id] = true
	}
	isMade := func(id int) bool { return id >= 0 && id < len(made) && made[id] }
	for _, x := range merges {
		if x.Id < 0 || x.Id >= len(made) || made[x.Id] || !isMade(x.Left) || !isMade(x.Right) {
			return false
		}
		right, ok := strings.CutPrefix(wordOf(x.Id), wordOf(x.Left))
		if !ok || right != wordOf(x.Right) {
			return false
		}
		made[x.Id] = true
	}
	return true
}

// areRunes tells whether all ends of l are scalar values.
func areRunes(l []api.Span) bool {
	for _, s := range l {
		if !isScalar(s.Lo) || !isScalar(s.Hi) {
			return false
		}
	}
	return true
}
