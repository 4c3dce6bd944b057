package utf_test

import (
	"math/rand"

	"tessera/utf"
)

// span is the bytes from the first to the second one.
type span [2]byte

// table is the chapter's table of well-formed sequences, row by row.
var table = [][]span{
	{{0x00, 0x7f}},
	{{0xc2, 0xdf}, {0x80, 0xbf}},
	{{0xe0, 0xe0}, {0xa0, 0xbf}, {0x80, 0xbf}},
	{{0xe1, 0xec}, {0x80, 0xbf}, {0x80, 0xbf}},
	{{0xee, 0xee}, {0x80, 0xbf}, {0x80, 0xbf}},
	{{0xef, 0xef}, {0x80, 0xbf}, {0x80, 0xbf}},
	{{0xed, 0xed}, {0x80, 0x9f}, {0x80, 0xbf}},
	{{0xf0, 0xf0}, {0x90, 0xbf}, {0x80, 0xbf}, {0x80, 0xbf}},
	{{0xf1, 0xf3}, {0x80, 0xbf}, {0x80, 0xbf}, {0x80, 0xbf}},
	{{0xf4, 0xf4}, {0x80, 0x8f}, {0x80, 0xbf}, {0x80, 0xbf}},
}

// fits tells whether all bytes of s lie in the row's first len(s) spans.
func fits(row []span, s string) bool {
	if len(s) > len(row) {
		return false
	}
	for i := range len(s) {
		if s[i] < row[i][0] || s[i] > row[i][1] {
			return false
		}
	}
	return true
}

func wellFormed(s string) bool {
	for _, row := range table {
		if len(s) == len(row) && fits(row, s) {
			return true
		}
	}
	return false
}

func beginning(s string) bool {
	for _, row := range table {
		if len(s) > 0 && len(s) < len(row) && fits(row, s) {
			return true
		}
	}
	return false
}

// wholeAt answers how long the well-formed sequence at s's front is, or 0.
func wholeAt(s string) int {
	for n := 1; n <= 4 && n <= len(s); n++ {
		if wellFormed(s[:n]) {
			return n
		}
	}
	return 0
}

// beginningAt answers how long the longest beginning at s's front is, or 0.
func beginningAt(s string) int {
	for n := min(3, len(s)); n > 0; n-- {
		if beginning(s[:n]) {
			return n
		}
	}
	return 0
}

// runeOf puts the bits of a well-formed sequence together.
func runeOf(s string) rune {
	masks := [5]byte{0, 0x7f, 0x1f, 0x0f, 0x07}
	r := rune(s[0] & masks[len(s)])
	for i := 1; i < len(s); i++ {
		r = r<<6 | rune(s[i]&0x3f)
	}
	return r
}

func badAt(from int) utf.Item { return utf.Item{From: from, Bytes: 1, Rune: 0xfffd, Bad: true} }

func runeAt(from int, s string) utf.Item {
	return utf.Item{From: from, Bytes: len(s), Rune: runeOf(s)}
}

// itemsByTable is P2.1, word by word.
func itemsByTable(s string) []utf.Item {
	var l []utf.Item
	for at := 0; at < len(s); at += l[len(l)-1].Bytes {
		if n := wholeAt(s[at:]); n > 0 {
			l = append(l, runeAt(at, s[at:at+n]))
		} else {
			l = append(l, badAt(at))
		}
	}
	return l
}

// slow is P2.3 and P2.4, word by word.
type slow struct {
	held  string
	count int
}

func (x *slow) put(c byte) []utf.Item {
	left := x.held + string([]byte{c})
	x.count++
	var l []utf.Item
	for left != "" && !beginning(left) {
		from := x.count - len(left)
		if n := wholeAt(left); n > 0 {
			l = append(l, runeAt(from, left[:n]))
			left = left[n:]
		} else {
			l = append(l, badAt(from))
			left = left[1:]
		}
	}
	x.held = left
	return l
}

func (x *slow) end() []utf.Item {
	var l []utf.Item
	for i := range len(x.held) {
		l = append(l, badAt(x.count-len(x.held)+i))
	}
	x.held = ""
	return l
}

// tailByTable is P2.2, word by word.
func tailByTable(s string) int {
	var x slow
	for i := range len(s) {
		x.put(s[i])
	}
	return len(x.held)
}

// replaceByTable is P2.5, word by word.
func replaceByTable(s string) string {
	out := ""
	for s != "" {
		n := wholeAt(s)
		if n > 0 {
			out += s[:n]
		} else {
			n = max(1, beginningAt(s))
			out += "\xef\xbf\xbd"
		}
		s = s[n:]
	}
	return out
}

// edgeBytes are the first and the last bytes of the table's spans and those beside them.
var edgeBytes = []byte{
	0x00, 'a', 0x7f, 0x80, 0x8f, 0x90, 0x9f, 0xa0, 0xbf, 0xc0, 0xc1, 0xc2, 0xdf, 0xe0, 0xe1,
	0xec, 0xed, 0xee, 0xef, 0xf0, 0xf1, 0xf3, 0xf4, 0xf5, 0xff,
}

// shortTexts hands out every text of at most four edge bytes.
func shortTexts(yield func(string) bool) {
	level := []string{""}
	for n := range 5 {
		var next []string
		for _, s := range level {
			if !yield(s) {
				return
			}
			if n == 4 {
				continue
			}
			for _, c := range edgeBytes {
				next = append(next, s+string([]byte{c}))
			}
		}
		level = next
	}
}

// rows hands out each of the table's rows at the first and at the last byte of each of its spans.
func rows(yield func(string) bool) {
	for _, row := range table {
		for ends := range 1 << len(row) {
			var b []byte
			for i, sp := range row {
				b = append(b, sp[ends>>i&1])
			}
			if !yield(string(b)) {
				return
			}
		}
	}
}

// longTexts hands out texts of up to 60 bytes, of edge bytes and of rows.
func longTexts(yield func(string) bool) {
	r := rand.New(rand.NewSource(2))
	var whole []string
	for s := range rows {
		whole = append(whole, s)
	}
	for range 4000 {
		s := ""
		for range r.Intn(16) {
			switch r.Intn(4) {
			case 0:
				s += string([]byte{edgeBytes[r.Intn(len(edgeBytes))]})
			case 1:
				s += string([]byte{byte(r.Intn(256))})
			case 2:
				s += whole[r.Intn(len(whole))]
			case 3:
				one := whole[r.Intn(len(whole))]
				s += one[:r.Intn(len(one)+1)]
			}
		}
		if !yield(s) {
			return
		}
	}
}
