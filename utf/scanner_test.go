package utf_test

import (
	"math/rand"
	"slices"
	"testing"

	"tessera/utf"
)

// putAll puts all bytes of s and answers what came.
func putAll(x *utf.Scanner, s string) []utf.Item {
	var l []utf.Item
	for i := range len(s) {
		l = append(l, x.Put(s[i])...)
	}
	return l
}

// P2.3

func TestPutOfKnownBytes(t *testing.T) {
	for _, c := range []struct {
		s    string
		want [][]utf.Item // of each byte
		held []int
	}{
		{"ab", [][]utf.Item{{runeAt(0, "a")}, {runeAt(1, "b")}}, []int{0, 0}},
		{"\xc3\xa9", [][]utf.Item{nil, {runeAt(0, "\xc3\xa9")}}, []int{1, 0}},
		{"\xe2\x82\xac", [][]utf.Item{nil, nil, {runeAt(0, "\xe2\x82\xac")}}, []int{1, 2, 0}},
		{"\xf0\x9f\x98\x80", [][]utf.Item{nil, nil, nil, {runeAt(0, "\xf0\x9f\x98\x80")}}, []int{1, 2, 3, 0}},
		{"\xf0\x9f\x98a", [][]utf.Item{nil, nil, nil, {badAt(0), badAt(1), badAt(2), runeAt(3, "a")}}, []int{1, 2, 3, 0}},
		{"\xf0\xf0", [][]utf.Item{nil, {badAt(0)}}, []int{1, 1}},
		{"\xf0\x9f\x98\xc3\xa9", [][]utf.Item{nil, nil, nil, {badAt(0), badAt(1), badAt(2)}, {runeAt(3, "\xc3\xa9")}}, []int{1, 2, 3, 1, 0}},
		{"\xe2\x82\xff", [][]utf.Item{nil, nil, {badAt(0), badAt(1), badAt(2)}}, []int{1, 2, 0}},
		{"\xff\x80\xc0", [][]utf.Item{{badAt(0)}, {badAt(1)}, {badAt(2)}}, []int{0, 0, 0}},
		{"\xed\xa0\x80", [][]utf.Item{nil, {badAt(0), badAt(1)}, {badAt(2)}}, []int{1, 0, 0}},
		{"\xf4\x90", [][]utf.Item{nil, {badAt(0), badAt(1)}}, []int{1, 0}},
		{"\xef\xbf\xbd", [][]utf.Item{nil, nil, {{From: 0, Bytes: 3, Rune: 0xfffd}}}, []int{1, 2, 0}},
	} {
		x := utf.New()
		for i := range len(c.s) {
			if l := x.Put(c.s[i]); !slices.Equal(l, c.want[i]) || x.Held() != c.held[i] || x.Count() != i+1 {
				t.Errorf("Put of %q's byte %d: %+v, %d held, %d put, want %+v, %d", c.s, i, l, x.Held(), x.Count(), c.want[i], c.held[i])
			}
		}
	}
}

func TestScannerByTheTable(t *testing.T) {
	for s := range shortTexts {
		againstSlow(t, s, len(s))
	}
	r := rand.New(rand.NewSource(3))
	for s := range longTexts {
		againstSlow(t, s, r.Intn(len(s)+1))
	}
}

// againstSlow holds each answer of a scanner against the chapter's words, with an End ahead of byte end.
func againstSlow(t *testing.T, s string, end int) {
	t.Helper()
	x, y := utf.New(), &slow{}
	for i := range len(s) {
		if i == end {
			if l, want := x.End(), y.end(); !slices.Equal(l, want) || x.Held() != 0 || x.Count() != i {
				t.Fatalf("End at %d of %q: %+v, %d held, %d put, want %+v", i, s, l, x.Held(), x.Count(), want)
			}
		}
		l, want := x.Put(s[i]), y.put(s[i])
		if !slices.Equal(l, want) || x.Held() != len(y.held) || x.Count() != i+1 {
			t.Fatalf("Put at %d of %q: %+v, %d held, %d put, want %+v, %d held", i, s, l, x.Held(), x.Count(), want, len(y.held))
		}
	}
	if l, want := x.End(), y.end(); !slices.Equal(l, want) || x.Held() != 0 || x.Count() != len(s) {
		t.Fatalf("End of %q: %+v, %d held, %d put, want %+v", s, l, x.Held(), x.Count(), want)
	}
}

// P2.4

func TestAFreshScannerHoldsNothing(t *testing.T) {
	x := utf.New()
	if x.Held() != 0 || x.Count() != 0 {
		t.Errorf("fresh: %d held, %d put", x.Held(), x.Count())
	}
	for range 2 {
		if l := x.End(); len(l) != 0 || x.Held() != 0 || x.Count() != 0 {
			t.Errorf("End of a fresh one: %+v, %d held, %d put", l, x.Held(), x.Count())
		}
	}
}

func TestEndOfEachBeginning(t *testing.T) {
	for s := range rows {
		for n := 1; n < len(s); n++ {
			x := utf.New()
			putAll(x, "ab")
			if l := putAll(x, s[:n]); len(l) != 0 || x.Held() != n {
				t.Errorf("% x: %+v, %d held", s[:n], l, x.Held())
			}
			var want []utf.Item
			for i := range n {
				want = append(want, badAt(2+i))
			}
			if l := x.End(); !slices.Equal(l, want) || x.Held() != 0 || x.Count() != 2+n {
				t.Errorf("End behind % x: %+v, %d held, %d put", s[:n], l, x.Held(), x.Count())
			}
			if l := x.End(); len(l) != 0 {
				t.Errorf("a second End behind % x: %+v", s[:n], l)
			}
		}
	}
}

// An End among bytes: no byte behind it completes what was held, and places are counted on.
func TestEndAmongBytes(t *testing.T) {
	x := utf.New()
	if l := putAll(x, "a\xe2\x82"); !slices.Equal(l, []utf.Item{runeAt(0, "a")}) {
		t.Errorf("ahead of End: %+v", l)
	}
	if l := x.End(); !slices.Equal(l, []utf.Item{badAt(1), badAt(2)}) || x.Count() != 3 {
		t.Errorf("End: %+v, %d put", l, x.Count())
	}
	if l := x.Put(0xac); !slices.Equal(l, []utf.Item{badAt(3)}) || x.Held() != 0 {
		t.Errorf("behind End: %+v, %d held", l, x.Held())
	}
	if l := putAll(x, "\xe2\x82\xacb"); !slices.Equal(l, []utf.Item{runeAt(4, "\xe2\x82\xac"), runeAt(7, "b")}) || x.Count() != 8 {
		t.Errorf("behind End: %+v, %d put", l, x.Count())
	}
}

// P2.6

func TestScannerAnswersItems(t *testing.T) {
	for _, texts := range []func(func(string) bool){shortTexts, longTexts} {
		for s := range texts {
			x := utf.New()
			l := append(putAll(x, s), x.End()...)
			if !slices.Equal(l, items(s)) {
				t.Fatalf("%q put and ended: %+v, want %+v", s, l, items(s))
			}
		}
	}
}

// R2: an answer is new memory, its spare room too.
func TestAnswersStay(t *testing.T) {
	type answer struct{ given, was []utf.Item }
	for s := range longTexts {
		x, y := utf.New(), &slow{}
		var l []answer
		keep := func(given, want []utf.Item) {
			if !slices.Equal(given, want) {
				t.Fatalf("%q: %+v, want %+v: an answer that was written to went into the scanner", s, given, want)
			}
			l = append(l, answer{given, want})
		}
		for i := range len(s) {
			keep(x.Put(s[i]), y.put(s[i]))
			// Every other answer is spoilt, its spare room too: the scanner and the other answers may not tell.
			if i%2 == 1 {
				spoil(l[len(l)-1].given)
				l = l[:len(l)-1]
			}
		}
		keep(x.End(), y.end())
		for _, a := range l {
			if !slices.Equal(a.given, a.was) {
				t.Fatalf("%q: an answer was %+v and became %+v", s, a.was, a.given)
			}
		}
	}
}

func spoil(l []utf.Item) {
	l = l[:cap(l)]
	for i := range l {
		l[i] = utf.Item{From: -1, Bytes: -1, Rune: -1, Bad: true}
	}
}

// What one scanner is given is nothing to another one.
func TestScannersAreApart(t *testing.T) {
	x, y := utf.New(), utf.New()
	x.Put(0xe2)
	if y.Held() != 0 || y.Count() != 0 {
		t.Errorf("the other one: %d held, %d put", y.Held(), y.Count())
	}
	y.Put(0xf0)
	x.Put(0x82)
	if l := x.Put(0xac); !slices.Equal(l, []utf.Item{runeAt(0, "\xe2\x82\xac")}) {
		t.Errorf("%+v", l)
	}
	if l := y.End(); !slices.Equal(l, []utf.Item{badAt(0)}) {
		t.Errorf("%+v", l)
	}
}
