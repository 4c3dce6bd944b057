package spans_test

import (
	"math/rand"
	"slices"
	"testing"

	"tessera/api"
	"tessera/spans"
)

// P3.1

func TestRightOfKnownLists(t *testing.T) {
	for _, c := range []struct {
		l   list
		row int
		why api.Errno
	}{
		{nil, 0, api.OK},
		{list{}, 0, api.OK},
		{list{span(0, 0)}, 0, api.OK},
		{list{span(0, 0x10ffff)}, 0, api.OK},
		{list{span(65, 90), span(90, 91)}, 1, api.ErrOrder},
		{list{span(65, 90), span(91, 91)}, 0, api.OK},
		{list{span(65, 90), span(91, 92), span(70, 80)}, 2, api.ErrOrder},
		{list{span(9, 12), span(1, 2)}, 1, api.ErrOrder},
		{list{span(1, 1), span(1, 1)}, 1, api.ErrOrder},
		{list{span(5, 4)}, 0, api.ErrOrder},
		{list{span(1, 2), span(5, 4)}, 1, api.ErrOrder},
		{list{span(5, 5)}, 0, api.OK},
		{list{span(0xd800, 0xe000)}, 0, api.ErrRune},
		{list{span(0xd7ff, 0xdfff)}, 0, api.ErrRune},
		{list{span(0xd7ff, 0xe000)}, 0, api.OK},
		{list{span(0, 0xd7ff), span(0xe000, 0x10ffff)}, 0, api.OK},
		{list{span(-1, 5)}, 0, api.ErrRune},
		{list{span(0, 0x110000)}, 0, api.ErrRune},
		{list{span(1, 2), span(3, 0x110000)}, 1, api.ErrRune},
		// Both faults in one row: the chapter names ErrRune first.
		{list{span(5, -1)}, 0, api.ErrRune},
		{list{span(0x110000, 5)}, 0, api.ErrRune},
		{list{span(1, 9), span(9, 0xd800)}, 1, api.ErrRune},
		// Faults in two rows: the first row is told, whatever its fault.
		{list{span(1, 2), span(2, 3), span(-1, 5)}, 1, api.ErrOrder},
		{list{span(1, 2), span(-1, 5), span(2, 3)}, 1, api.ErrRune},
	} {
		if row, why := spans.Right(c.l); row != c.row || why != c.why {
			t.Errorf("Right(%v): %d, %v, want %d, %v", c.l, row, why, c.row, c.why)
		}
	}
}

func TestRightAtTheEdges(t *testing.T) {
	for s := range edgeSpans {
		for _, l := range []list{{s}, {span(0, 1), s}, {s, span(0x10ffff, 0x10ffff)}, {span(0xd7ff, 0xe000), s}} {
			row, why := spans.Right(l)
			if wantRow, want := plainRight(l); row != wantRow || why != want {
				t.Errorf("Right(%v): %d, %v, want %d, %v", l, row, why, wantRow, want)
			}
		}
	}
}

func TestRightTellsTheFirstRow(t *testing.T) {
	for at := range api.MaxSpans {
		for _, s := range []api.Span{span(-1, 7), span(7, 0xd800), span(0, 0), span(9999, 9998)} {
			l := longList()
			l[at] = s
			row, why := spans.Right(l)
			if wantRow, want := plainRight(l); row != wantRow || why != want {
				t.Fatalf("Right with %v at %d: %d, %v, want %d, %v", s, at, row, why, wantRow, want)
			}
		}
	}
	for l := range rightLists {
		if row, why := spans.Right(l); row != 0 || why != api.OK {
			t.Fatalf("Right(%v): %d, %v", l, row, why)
		}
	}
}

// P3.2

func TestInOfKnownLists(t *testing.T) {
	letters := list{span(65, 90)}
	over := list{span(65, 90), span(0xd7ff, 0xe000)}
	whole := list{span(0, 0x10ffff)}
	for _, c := range []struct {
		l    list
		r    rune
		want bool
	}{
		{letters, 65, true}, {letters, 90, true}, {letters, 77, true},
		{letters, 64, false}, {letters, 91, false}, {letters, -1, false},
		{nil, 'a', false}, {list{}, 0, false}, {nil, -1, false},
		{over, 0xd7fe, false}, {over, 0xd7ff, true}, {over, 0xd800, false},
		{over, 0xdfff, false}, {over, 0xe000, true}, {over, 0xe001, false},
		{whole, 0, true}, {whole, 0x10ffff, true}, {whole, 0x110000, false}, {whole, -1, false}, {whole, 0xdabc, false},
		{list{span(0, 0)}, 0, true}, {list{span(0, 0)}, 1, false},
	} {
		if got := spans.In(c.l, c.r); got != c.want {
			t.Errorf("In(%v, %#x): %v", c.l, c.r, got)
		}
	}
}

func TestInAboutEachEnd(t *testing.T) {
	for l := range rightLists {
		asked := slices.Clone(edges)
		for _, s := range l {
			asked = append(asked, s.Lo-1, s.Lo, s.Lo+1, s.Lo+(s.Hi-s.Lo)/2, s.Hi-1, s.Hi, s.Hi+1)
		}
		for _, r := range asked {
			if got := spans.In(l, r); got != plainIn(l, r) {
				t.Fatalf("In(%v, %#x): %v", l, r, got)
			}
		}
	}
}

func TestInOfListsOfEachLength(t *testing.T) {
	all := longList()
	for n := range 40 {
		for r := rune(-2); r < rune(5*n+7); r++ {
			if got := spans.In(all[:n], r); got != plainIn(all[:n], r) {
				t.Fatalf("In(%v, %d): %v", all[:n], r, got)
			}
		}
	}
	for r := rune(-2); r < 5*api.MaxSpans+7; r++ {
		if got := spans.In(all, r); got != plainIn(all, r) {
			t.Fatalf("In of %d spans, %d: %v", len(all), r, got)
		}
	}
}

// P3.3

func TestSizeOfKnownLists(t *testing.T) {
	for _, c := range []struct {
		l    list
		want int
	}{
		{nil, 0},
		{list{}, 0},
		{list{span(0, 0)}, 1},
		{list{span(0x10ffff, 0x10ffff)}, 1},
		{list{span(65, 90)}, 26},
		{list{span(65, 90), span(97, 122)}, 52},
		{list{span(1, 2), span(3, 4)}, 4},
		{list{span(0xd7ff, 0xe000)}, 2},
		{list{span(0xd7ff, 0xd7ff), span(0xe000, 0xe000)}, 2},
		{list{span(0xd7fe, 0xe003)}, 6},
		{list{span(65, 90), span(0xd7ff, 0xe000)}, 28},
		{list{span(0, 0xd7ff)}, 0xd800},
		{list{span(0xe000, 0x10ffff)}, 0x102000},
		{list{span(0, 0xd7ff), span(0xe000, 0x10ffff)}, 1112064},
		{list{span(0, 0x10ffff)}, 1112064},
		{longList(), 3 * api.MaxSpans},
	} {
		if got := spans.Size(c.l); got != c.want {
			t.Errorf("Size(%v): %d, want %d", c.l, got, c.want)
		}
	}
}

// P3.3 and P3.4: what Size counts is what All hands out, and what In takes.

func TestAllAndSizeOfEveryRune(t *testing.T) {
	n := 0
	for l := range rightLists {
		if n++; n > 40 { // each goes through all runes there are
			break
		}
		want := plainAll(l)
		if got := slices.Collect(spans.All(l)); !slices.Equal(got, want) {
			t.Fatalf("All(%v): %d runes, want %d", l, len(got), len(want))
		}
		if got := spans.Size(l); got != len(want) {
			t.Fatalf("Size(%v): %d, want %d", l, got, len(want))
		}
	}
}

func TestAllRisesAndIsAsManyAsSize(t *testing.T) {
	for l := range rightLists {
		n, last := 0, rune(-1)
		for r := range spans.All(l) {
			if r <= last || !plainIn(l, r) {
				t.Fatalf("All(%v): %#x behind %#x", l, r, last)
			}
			n, last = n+1, r
		}
		if n != spans.Size(l) {
			t.Fatalf("All(%v): %d runes, Size says %d", l, n, spans.Size(l))
		}
	}
}

// P3.4

func TestAllOfKnownLists(t *testing.T) {
	for _, c := range []struct {
		l    list
		want []rune
	}{
		{nil, nil},
		{list{}, nil},
		{list{span(0, 0)}, []rune{0}},
		{list{span(0x10ffff, 0x10ffff)}, []rune{0x10ffff}},
		{list{span(0x10fffd, 0x10ffff)}, []rune{0x10fffd, 0x10fffe, 0x10ffff}},
		{list{span(0xd7ff, 0xe000)}, []rune{0xd7ff, 0xe000}},
		{list{span(0xd7fe, 0xe001)}, []rune{0xd7fe, 0xd7ff, 0xe000, 0xe001}},
		{list{span(1, 2), span(3, 3), span(7, 8)}, []rune{1, 2, 3, 7, 8}},
	} {
		if got := slices.Collect(spans.All(c.l)); !slices.Equal(got, c.want) {
			t.Errorf("All(%v): %#x, want %#x", c.l, got, c.want)
		}
	}
}

func TestAllMayBeLeftAndGoneOverAgain(t *testing.T) {
	all := []rune{3, 4, 9, 0xd7fe, 0xd7ff, 0xe000, 0xe001, 0x10ffff}
	seq := spans.All(list{span(3, 4), span(9, 9), span(0xd7fe, 0xe001), span(0x10ffff, 0x10ffff)})
	for n := range all {
		var got []rune
		for r := range seq {
			if got = append(got, r); len(got) == n+1 {
				break
			}
		}
		if !slices.Equal(got, all[:n+1]) {
			t.Errorf("left behind %d: %#x, want %#x", n+1, got, all[:n+1])
		}
	}
	for range 2 {
		if got := slices.Collect(seq); !slices.Equal(got, all) {
			t.Errorf("gone over again: %#x, want %#x", got, all)
		}
	}
}

// What is left early isn't asked for more.
func TestAllEndsWhereItIsLeft(t *testing.T) {
	seq := spans.All(list{span(3, 4), span(9, 9), span(0xd7ff, 0xe000)})
	for n := 1; n <= 5; n++ {
		calls := 0
		seq(func(rune) bool {
			calls++
			return calls < n
		})
		if calls != n {
			t.Errorf("left at the rune %d: %d were handed out", n, calls)
		}
	}
}

func TestAllWithinItself(t *testing.T) {
	l := list{span(3, 4), span(0xd7ff, 0xe000)}
	want := slices.Collect(spans.All(l))
	seq := spans.All(l)
	var outer []rune
	for r := range seq {
		outer = append(outer, r)
		if inner := slices.Collect(seq); !slices.Equal(inner, want) {
			t.Fatalf("All within %#x: %#x, want %#x", r, inner, want)
		}
	}
	if !slices.Equal(outer, want) {
		t.Errorf("All about another: %#x, want %#x", outer, want)
	}
}

// P3.5

func TestMeetOfKnownLists(t *testing.T) {
	for _, c := range []struct {
		a, b list
		row  int
		ok   bool
	}{
		{list{span(1, 2), span(5, 9)}, list{span(9, 12)}, 1, true},
		{list{span(1, 2)}, list{span(3, 4)}, 0, false},
		{list{span(3, 4)}, list{span(1, 2)}, 0, false},
		{list{span(9, 12)}, list{span(1, 2), span(5, 9)}, 0, true},
		{list{span(1, 100)}, list{span(3, 4), span(8, 9)}, 0, true},
		{list{span(3, 4), span(8, 9)}, list{span(1, 100)}, 0, true},
		{list{span(3, 4), span(8, 9)}, list{span(5, 100)}, 1, true},
		{list{span(1, 1), span(3, 3), span(5, 5)}, list{span(0, 0), span(2, 2), span(4, 4), span(6, 6)}, 0, false},
		{list{span(1, 1), span(3, 3), span(5, 5)}, list{span(0, 0), span(2, 2), span(4, 5)}, 2, true},
		{list{span(7, 7)}, list{span(7, 7)}, 0, true},
		{list{span(0, 0)}, list{span(0, 0)}, 0, true},
		{list{span(0, 0x10ffff)}, list{span(0x10ffff, 0x10ffff)}, 0, true},
		{list{span(0xd7ff, 0xe000)}, list{span(0xe000, 0xe000)}, 0, true},
		{list{span(0xd7fe, 0xd7ff)}, list{span(0xe000, 0xe001)}, 0, false},
		{nil, list{span(3, 4)}, 0, false},
		{list{span(3, 4)}, nil, 0, false},
		{list{}, list{}, 0, false},
		{nil, nil, 0, false},
	} {
		if row, ok := spans.Meet(c.a, c.b); row != c.row || ok != c.ok {
			t.Errorf("Meet(%v, %v): %d, %v, want %d, %v", c.a, c.b, row, ok, c.row, c.ok)
		}
	}
}

func TestMeetOfManyLists(t *testing.T) {
	r := rand.New(rand.NewSource(2))
	for n := range 20000 {
		first := []rune{0, 0xd7f0, 0x10ffe0}[n%3]
		a, b := someList(r, first, 1+r.Intn(32)), someList(r, first+rune(r.Intn(9)), 1+r.Intn(24))
		row, ok := spans.Meet(a, b)
		if wantRow, want := plainMeet(a, b); row != wantRow || ok != want {
			t.Fatalf("Meet(%v, %v): %d, %v, want %d, %v", a, b, row, ok, wantRow, want)
		}
	}
}

func TestMeetOfTheLongestLists(t *testing.T) {
	a := longList()
	between := longList()
	for i := range between {
		between[i] = span(5*rune(i), 5*rune(i))
	}
	if row, ok := spans.Meet(a, between); row != 0 || ok {
		t.Errorf("Meet of spans that lie between one another: %d, %v", row, ok)
	}
	for i := range a {
		if row, ok := spans.Meet(a, list{a[i]}); row != i || !ok {
			t.Fatalf("Meet with the span %d: %d, %v", i, row, ok)
		}
		if row, ok := spans.Meet(a, append(slices.Clone(between[:i+1]), span(5*rune(i)+3, 5*rune(i)+4))); row != i || !ok {
			t.Fatalf("Meet at the end of the span %d: %d, %v", i, row, ok)
		}
	}
}
