package recipe

import (
	"slices"
	"strings"

	"tessera/api"
)

// written is a merge as it is written.
type written struct{ left, right, id token }

// parser goes through a recipe from the left, up to its first refusal.
type parser struct {
	tokens scanner
	ahead  token // what stands next
	merges []written
	data   api.Data
	why    api.Errno
	at     int // the byte at which why is told
}

// refuse keeps why and where the recipe is refused.
func (p *parser) refuse(at int, why api.Errno) { p.at, p.why = at, why }

// meets tells whether what stands next is a token of the kind and, where texts are given, one of them.
func (p *parser) meets(kind int, texts ...string) bool {
	return p.why == api.OK && p.ahead.kind == kind && (len(texts) == 0 || slices.Contains(texts, p.ahead.text))
}

// take answers the token that p meets, and goes past it; another one is refused.
// Behind a refusal p stays where it is: what is taken then is empty, and the same is told again.
func (p *parser) take(kind int, texts ...string) token {
	t := p.ahead
	switch {
	case p.meets(kind, texts...):
		p.ahead = p.tokens.next()
		return t
	case t.kind == openWord || t.kind == theEnd:
		p.refuse(len(p.tokens.src), api.ErrEnd)
	default:
		p.refuse(t.at, api.ErrToken)
	}
	return token{}
}

// rules takes all of the recipe.
func (p *parser) rules() {
	p.ahead = p.tokens.next()
	for p.why == api.OK && p.ahead.kind != theEnd {
		switch p.take(aName, merge, letters, numbers, spaces).text {
		case merge:
			p.merge()
		case letters:
			p.spans(&p.data.Letters)
		case numbers:
			p.spans(&p.data.Numbers)
		case spaces:
			p.spans(&p.data.Spaces)
		}
	}
}

// merge takes what stands behind the name of a merge.
func (p *parser) merge() {
	var x written
	x.left = p.take(aWord)
	p.take(aSign, "+")
	x.right = p.take(aWord)
	p.take(aSign, "=")
	x.id = p.take(aNumber)
	p.merges = append(p.merges, x)
}

// spans takes what stands behind the name of a class, and lays the spans behind those of l.
func (p *parser) spans(l *[]api.Span) {
	p.take(aSign, "{")
	for p.meets(aRune) {
		lo := p.rune()
		hi := lo
		if p.meets(aSign, upTo) {
			p.take(aSign, upTo)
			hi = p.rune()
		}
		*l = append(*l, api.Span{Lo: lo, Hi: hi})
	}
	p.take(aSign, "}")
}

// rune takes a rune.
func (p *parser) rune() rune {
	return rune(valueOf(strings.TrimPrefix(p.take(aRune).text, runeMark), 16))
}

// meaning gives the merges their ids, and the ids their words.
func (p *parser) meaning() {
	words := make([]string, len(p.merges)) // those that aren't made yet are empty
	made := map[string]int{}
	idOf := func(word string) (int, bool) {
		if len(word) == 1 {
			return int(word[0]), true
		}
		id, ok := made[word]
		return id, ok
	}
	for _, x := range p.merges {
		left, ok := idOf(x.left.text)
		if !ok {
			p.refuse(x.left.at, api.ErrPart)
			return
		}
		right, ok := idOf(x.right.text)
		if !ok {
			p.refuse(x.right.at, api.ErrPart)
			return
		}
		row := valueOf(x.id.text, 10) - firstWord
		if row < 0 || row >= int64(len(words)) || words[row] != "" {
			p.refuse(x.id.at, api.ErrId)
			return
		}
		word, id := x.left.text+x.right.text, firstWord+int(row)
		words[row], made[word] = word, id
		p.data.Merges = append(p.data.Merges, api.Merge{Left: left, Right: right, Id: id})
	}
	p.data.Words = words
}
