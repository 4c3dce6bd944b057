package file

import (
	"math"

	"tessera/api"
	"tessera/model"
	"tessera/octet"
)

const (
	minWord = 2 // bytes of a word
	maxRune = 0x10ffff
	maxId   = 0x7fffffff // what an int has room for, however wide it is
)

// The numbers by which a model.Fault tells the lists of spans, which stand in this order in a file, too.
const (
	letters = 1 + iota
	numbers
	spaces
)

// reader goes through a file from the left. Behind its first refusal it reads nothing more: what is asked of it then is zero.
type reader struct {
	f      []byte
	at     int // the place of what is read next
	no     *Refusal
	data   api.Data
	places [model.Merges + 1][]int // of each list's rows, by the numbers of model.Fault
	blanks int                     // the place of the number of spaces
}

// all reads the whole file.
func (r *reader) all() {
	r.magic()
	r.words()
	r.merges()
	r.data.Letters = r.spans(letters)
	r.data.Numbers = r.spans(numbers)
	r.blanks = r.at
	r.data.Spaces = r.spans(spaces)
	r.sum()
}

// refuse keeps why and where no more is read.
func (r *reader) refuse(at int, why api.Errno) { r.no = &Refusal{at, why} }

// rows reads n rows of the list, or up to the first refusal, and keeps where each of them begins.
func (r *reader) rows(list, n int, read func()) {
	for range n {
		if r.no != nil {
			return
		}
		r.places[list] = append(r.places[list], r.at)
		read()
	}
}

// place answers where the row stands that f tells.
func (r *reader) place(f model.Fault) int {
	if l := r.places[f.List]; f.Row < len(l) {
		return l[f.Row]
	}
	// Only the spaces may have no row where one is told: the first of them, if U+0020 is none.
	return r.blanks
}

// magic reads the bytes that each file begins with.
func (r *reader) magic() {
	for i := range len(magic) {
		if i == len(r.f) || r.f[i] != magic[i] {
			r.refuse(i, api.ErrMagic)
			return
		}
	}
	r.at = len(magic)
}

// number reads a number, which is refused by why if it isn't from least to most.
func (r *reader) number(least, most uint32, why api.Errno) uint32 {
	if r.no != nil {
		return 0
	}
	n, behind, short := octet.Get(r.f, r.at)
	if short != api.OK {
		r.refuse(len(r.f), api.ErrShort)
		return 0
	}
	if n < least || n > most {
		r.refuse(r.at, why)
		return 0
	}
	r.at = behind
	return n
}

// words reads the number of words, and these.
func (r *reader) words() {
	n := r.number(0, api.MaxMerges, api.ErrMany)
	r.rows(model.Words, int(n), func() {
		r.data.Words = append(r.data.Words, r.word())
	})
}

// word reads a word.
func (r *reader) word() string {
	from := r.at
	// The length is asked ahead of the bytes: one that may not be is met first, even where these are missing.
	r.number(minWord, api.MaxWord, api.ErrWord)
	if r.no != nil {
		return ""
	}
	w, behind, short := octet.GetText(r.f, from, api.MaxWord)
	if short != api.OK {
		r.refuse(len(r.f), api.ErrShort)
		return ""
	}
	r.at = behind
	return w
}

// merges reads as many merges as there are words.
func (r *reader) merges() {
	r.rows(model.Merges, len(r.data.Words), func() {
		r.data.Merges = append(r.data.Merges, api.Merge{Left: r.id(), Right: r.id(), Id: r.id()})
	})
}

// id reads an id; whether it is one of the model's is asked behind the reading.
func (r *reader) id() int { return int(r.number(0, maxId, api.ErrId)) }

// spans reads the number of spans of the list, and these.
func (r *reader) spans(list int) []api.Span {
	n := r.number(0, api.MaxSpans, api.ErrMany)
	var l []api.Span
	r.rows(list, int(n), func() {
		l = append(l, api.Span{Lo: r.end(), Hi: r.end()})
	})
	return l
}

// end reads a Lo or a Hi.
func (r *reader) end() rune { return rune(r.number(0, maxRune, api.ErrRune)) }

// sum reads the sum, behind which the file ends.
func (r *reader) sum() {
	at := r.at
	sum := r.number(0, math.MaxUint32, api.OK)
	switch {
	case r.no != nil:
	case r.at < len(r.f):
		r.refuse(r.at, api.ErrTail)
	case sum != octet.Sum(r.f[:at]):
		r.refuse(at, api.ErrSum)
	}
}
