package recipe

import "strings"

// The kinds of tokens, and of what stands where there is none.
const (
	aName = 1 + iota
	aNumber
	aRune
	aWord
	aSign
	noToken
	openWord // the text ends within a word that is right so far
	theEnd
)

const (
	upTo         = ".."
	runeMark     = "U+"
	mostOfNumber = 10 // digits
)

// token is a piece of a recipe that means something, or what stands where there is none.
type token struct {
	kind int
	at   int    // its first byte
	text string // what stands there; of a word its bytes
}

// scanner cuts a text into tokens.
type scanner struct {
	src string
	at  int // the byte that is read next
}

// next answers the token that stands next. Its states are labels: what is read so far.
func (s *scanner) next() token {
	s.skip()
	from, kind := s.at, noToken
	switch c := s.here(); {
	case c == over:
		kind = theEnd
	case c == '"':
		return s.word()
	case isSmall(c):
		goto name
	case c == '0':
		s.at++
		goto number
	case isDigit(c):
		goto digits
	case s.stands(runeMark):
		s.at += len(runeMark)
		goto digitsOfRune
	case s.stands(upTo):
		s.at += len(upTo)
		kind = aSign
	case isOneOf(c, signs):
		s.at++
		kind = aSign
	}
	goto told
name:
	if isSmall(s.here()) {
		s.at++
		goto name
	}
	kind = aName
	goto bound
digits:
	if isDigit(s.here()) && s.at-from < mostOfNumber {
		s.at++
		goto digits
	}
number:
	kind = aNumber
	goto bound
digitsOfRune:
	if isOneOf(s.here(), capitalDigits) {
		s.at++
		goto digitsOfRune
	}
	if isRune(s.src[from+len(runeMark) : s.at]) {
		kind = aRune
	}
bound:
	// Where more stands directly behind, the first part of it is no token either.
	if goesOn(s.here()) {
		kind = noToken
	}
told:
	return token{kind, from, s.src[from:s.at]}
}

// skip goes past the blanks and the remarks that stand next. Its states are labels: what it goes through.
func (s *scanner) skip() {
between:
	switch c := s.here(); {
	case isOneOf(c, blanks):
		s.at++
		goto between
	case c == '#':
		goto remark
	}
	return
remark:
	// The byte 10 at which a remark ends is a blank.
	if c := s.here(); c == '\n' || c == over {
		goto between
	}
	s.at++
	goto remark
}

// word answers the word whose first byte is read next. Its states are labels: how much of a byte is told so far.
func (s *scanner) word() token {
	from, high := s.at, 0
	var text []byte
	c := s.read()
nothing:
	switch c = s.read(); {
	case c == '"':
		return token{aWord, from, string(text)}
	case c == '\\':
		goto escape
	case isShown(c):
		text = append(text, byte(c))
		goto nothing
	}
	goto wrong
escape:
	switch c = s.read(); {
	case c == '"' || c == '\\':
		text = append(text, byte(c))
		goto nothing
	case isOneOf(c, smallDigits):
		high = c
		goto half
	}
	goto wrong
half:
	// A byte is told by both digits: one alone is right so far, whichever it is.
	if c = s.read(); isOneOf(c, smallDigits) && !isShown(byteOf(high, c)) {
		text = append(text, byte(byteOf(high, c)))
		goto nothing
	}
wrong:
	if c == over {
		return token{kind: openWord, at: from}
	}
	return token{kind: noToken, at: from}
}

// here answers the byte that is read next, or over.
func (s *scanner) here() int {
	if s.at == len(s.src) {
		return over
	}
	return int(s.src[s.at])
}

// read answers the byte that is read next, or over, and goes past it.
func (s *scanner) read() int {
	c := s.here()
	if c != over {
		s.at++
	}
	return c
}

// stands tells whether what stands next.
func (s *scanner) stands(what string) bool { return strings.HasPrefix(s.src[s.at:], what) }
