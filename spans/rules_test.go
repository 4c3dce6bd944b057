package spans_test

import (
	"slices"
	"testing"

	"tessera/api"
	"tessera/spans"
)

// R1: whatever list is given, no call panics, and each ends; what All hands out isn't more than there is.
func TestWrongListsEnd(t *testing.T) {
	right := longList()
	for l := range wrongLists {
		if row, why := spans.Right(l); why == api.OK || row < 0 || row >= len(l) {
			t.Errorf("Right of a wrong list: %d, %v", row, why)
		}
		for _, r := range edges {
			spans.In(l, r)
		}
		spans.Size(l)
		for _, c := range [][2]list{{l, right}, {right, l}, {l, l}, {l, nil}, {nil, l}} {
			if row, ok := spans.Meet(c[0], c[1]); !ok && row != 0 {
				t.Errorf("Meet: %d beside false", row)
			}
		}
		if n := handedOut(l); n > 1112064 {
			t.Errorf("All of a wrong list of %d spans: %d runes", len(l), n)
		}
		for range spans.All(l) {
			break
		}
	}
}

// handedOut answers how many runes All hands out of l.
func handedOut(l list) int {
	n := 0
	for range spans.All(l) {
		n++
	}
	return n
}

// roomy answers l with spare room behind it, of spans that would follow rightly.
func roomy(l list) list {
	big := append(slices.Clone(l), span(0x10f000, 0x10f001), span(0x10f003, 0x10f004), span(-5, -6))
	return big[:len(l)]
}

// callAll makes every call of the package with l.
func callAll(l list) {
	spans.Right(l)
	spans.In(l, 'a')
	spans.Size(l)
	handedOut(l)
	spans.Meet(l, longList())
	spans.Meet(longList(), l)
}

// R2: the lists that are handed in stay as they were, their spare room too.
func TestListsStayAsTheyWere(t *testing.T) {
	check := func(l list) {
		in := roomy(l)
		before := slices.Clone(in[:cap(in)])
		callAll(in)
		if !slices.Equal(in[:cap(in)], before) {
			t.Fatalf("a list was changed: %v, was %v", in[:cap(in)], before)
		}
	}
	for l := range rightLists {
		check(l)
	}
	for l := range wrongLists {
		if len(l) < 100 {
			check(l)
		}
	}
}

// R5: the room behind a list isn't read.
func TestSpareRoomIsNotRead(t *testing.T) {
	behind := list{span(0x10f000, 0x10f004)}
	for l := range rightLists {
		if len(l) > 0 && l[len(l)-1].Hi >= 0x10f000 {
			continue
		}
		in := roomy(l)
		if row, why := spans.Right(in); row != 0 || why != api.OK {
			t.Errorf("Right reads the spare room: %d, %v", row, why)
		}
		if spans.In(in, 0x10f000) {
			t.Error("In reads the spare room")
		}
		if spans.Size(in) != spans.Size(l) || handedOut(in) != spans.Size(l) {
			t.Error("Size or All reads the spare room")
		}
		if row, ok := spans.Meet(in, behind); row != 0 || ok {
			t.Errorf("Meet reads the first list's spare room: %d, %v", row, ok)
		}
		if row, ok := spans.Meet(behind, in); row != 0 || ok {
			t.Errorf("Meet reads the second list's spare room: %d, %v", row, ok)
		}
	}
}

// R2: what All answers doesn't keep the list: it hands out the runes that lay in it when All was called.
func TestAllKeepsNoList(t *testing.T) {
	l := list{span(3, 4), span(9, 9)}
	seq := spans.All(l)
	l[0], l[1] = span(100, 200), span(5, 4)
	if got, want := slices.Collect(seq), []rune{3, 4, 9}; !slices.Equal(got, want) {
		t.Errorf("All of a list that changed behind the call: %v, want %v", got, want)
	}
	m := list{span(3, 4), span(9, 9)}
	var got []rune
	for r := range spans.All(m) {
		got = append(got, r)
		m[0], m[1] = span(3, 3), span(50, 60)
	}
	if want := []rune{3, 4, 9}; !slices.Equal(got, want) {
		t.Errorf("All of a list that changed amid the ranging: %v, want %v", got, want)
	}
}

// R4: nil and empty lists mean the same.
func TestNoListAndAnEmptyOne(t *testing.T) {
	for _, l := range []list{nil, {}, longList()[:0], roomy(nil)} {
		if row, why := spans.Right(l); row != 0 || why != api.OK {
			t.Errorf("Right: %d, %v", row, why)
		}
		if spans.In(l, 0) || spans.Size(l) != 0 || handedOut(l) != 0 {
			t.Error("a rune lies in a list of no span")
		}
		for _, c := range [][2]list{{l, longList()}, {longList(), l}, {l, l}} {
			if row, ok := spans.Meet(c[0], c[1]); row != 0 || ok {
				t.Errorf("Meet(%v, %v): %d, %v", c[0], c[1], row, ok)
			}
		}
	}
}
