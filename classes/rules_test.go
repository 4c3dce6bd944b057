package classes_test

import (
	"math"
	"slices"
	"sync"
	"testing"

	"tessera/api"
	"tessera/classes"
	"tessera/utf"
)

// someLists hands out lists of all sorts: none, right ones, ones that spans.Right refuses, long ones.
func someLists(yield func(list) bool) {
	for _, l := range []list{
		nil, {}, {span(32, 32)}, {span(39, 39)}, {span('a', 'z')}, {span(0, 0x10ffff)}, {span(9, 10), span(32, 32)}, {span(0xd7ff, 0xe000)},
		{span(5, 4)}, {span(9, 12), span(1, 2)}, {span(1, 9), span(4, 12)}, {span(-1, 5)}, {span(0xd800, 0xdfff)}, {span(0, 0x110000)},
		{span(math.MinInt32, math.MaxInt32)}, {span(math.MaxInt32, math.MinInt32)}, {span(32, 32), span(math.MaxInt32, math.MaxInt32)},
		longList(api.MaxSpans, 1000), longList(api.MaxSpans+1, 1000), longList(api.MaxSpans, -1024),
		slices.Repeat(list{span(math.MinInt32, math.MaxInt32)}, 5000), slices.Repeat(list{span(32, 32)}, api.MaxSpans),
	} {
		if !yield(l) {
			return
		}
	}
}

// someThrees hands out three lists of all sorts.
func someThrees(yield func(three) bool) {
	for a := range someLists {
		for b := range someLists {
			for c := range someLists {
				if !yield(three{a, b, c}) {
					return
				}
			}
		}
	}
}

// R1, R3: whatever lists are given, New ends, and answers either a Table or a refusal, whose place is one of the lists.
func TestNewOfWhateverLists(t *testing.T) {
	for c := range someThrees {
		x, w := classes.New(c[0], c[1], c[2])
		if (x != nil) != (w == classes.Wrong{}) || (x == nil) != (w.Why != api.OK) {
			t.Fatalf("New(%v): %v, %+v", c, x, w)
		}
		if x != nil {
			continue
		}
		if w.List < classes.Letters || w.List > classes.Spaces {
			t.Fatalf("New(%v): %+v", c, w)
		}
		n := len(c[w.List-1])
		if w.Row < 0 || w.Why != api.ErrBlank && w.Row >= n || w.Why == api.ErrBlank && w.Row != 0 || w.Why == api.ErrMany && w.Row != api.MaxSpans {
			t.Fatalf("New(%v): %+v", c, w)
		}
	}
}

// R1: whatever items and texts are given, the calls end.
func TestTablesOfWhateverItemsAndTexts(t *testing.T) {
	kinds := []int{api.Letter, api.Number, api.Space, api.Other}
	for c := range tables {
		x := made(t, c)
		for _, r := range edges {
			for _, n := range []int{math.MinInt, -1, 0, 5, math.MaxInt} {
				for _, bad := range []bool{false, true} {
					if !slices.Contains(kinds, x.Kind(utf.Item{From: n, Bytes: n, Rune: r, Bad: bad})) {
						t.Errorf("Kind of %#x, %d, %v", r, n, bad)
					}
				}
			}
		}
		for a := range 256 {
			for b := range 256 {
				checkRuns(t, x, c, string([]byte{byte(a), byte(b)}))
			}
		}
	}
}

// roomy answers l with spare room behind it, of spans that would be right there.
func roomy(l list) list {
	big := append(slices.Clone(l), span(0x10f000, 0x10f001), span(0x10f003, 0x10f004), span(-5, -6))
	return big[:len(l):len(big)]
}

// R2: the lists that are handed in stay as they were, their spare room too.
func TestListsStayAsTheyWere(t *testing.T) {
	for c := range someThrees {
		var in, before three
		for i := range c {
			in[i] = roomy(c[i])
			before[i] = slices.Clone(in[i][:cap(in[i])])
		}
		if x, _ := classes.New(in[0], in[1], in[2]); x != nil {
			x.Of('a')
			x.Kind(utf.Item{Rune: 'a'})
			for range x.Runs("ab1 \u00e9") {
			}
		}
		for i := range in {
			if !slices.Equal(in[i][:cap(in[i])], before[i]) {
				t.Fatalf("the list %d was changed: %v, was %v", i, in[i][:cap(in[i])], before[i])
			}
		}
	}
}

// R2: a Table keeps nothing of the lists: written over behind New, it says what it said.
func TestTablesKeepNoList(t *testing.T) {
	s := "ab1 \u00e9\xff!\n\n7x\u0660\u2000\ufffd"
	for c := range tables {
		in := copied(c)
		x := made(t, in)
		seq := x.Runs(s)
		for i := range in {
			for row := range in[i] {
				in[i][row] = span(rune(row), 0x10ffff)
			}
		}
		for _, r := range edges {
			if got, want := x.Of(r), plainOf(c, r); got != want {
				t.Errorf("%v: Of(%#x): %d, was %d", c, r, got, want)
			}
		}
		if got, want := slices.Collect(seq), plainRuns(c, s); !slices.Equal(got, want) {
			t.Errorf("%v: %v, was %v", c, got, want)
		}
	}
}

// R2: lists that share their memory are read alike, and Tables of the same lists don't hang on one another.
func TestListsThatShareMemory(t *testing.T) {
	all := list{span('a', 'z'), span(0xe9, 0xe9), span(0x660, 0x669), span(0x2000, 0x200a)}
	spaces := list{span(9, 10), span(32, 32)}
	x, w := classes.New(all[:2], all[2:], spaces)
	y, v := classes.New(all[2:], all[:2], spaces)
	if x == nil || y == nil {
		t.Fatal(w, v)
	}
	if x.Of('a') != api.Letter || x.Of(0x660) != api.Number || y.Of('a') != api.Number || y.Of(0x660) != api.Letter {
		t.Error("the lists were taken for one another")
	}
}

// R4: nil and empty lists mean the same.
func TestNoListAndAnEmptyOne(t *testing.T) {
	for _, none := range []list{nil, {}, roomy(nil), longList(3, 100)[:0]} {
		check(t, three{none, none, none}, classes.Wrong{Why: api.ErrBlank, List: classes.Spaces})
		check(t, three{none, none, {span(32, 32)}}, classes.Wrong{})
		check(t, three{none, {span(5, 4)}, none}, classes.Wrong{Why: api.ErrOrder, List: classes.Numbers})
	}
}

// R5: the room behind a list isn't read.
func TestSpareRoomIsNotRead(t *testing.T) {
	big := append(longList(api.MaxSpans, 1000), span(5000, 5000))
	check(t, three{big[:api.MaxSpans], nil, {span(32, 32)}}, classes.Wrong{})
	check(t, three{nil, nil, list{span(9, 10), span(32, 32)}[:1]}, classes.Wrong{Why: api.ErrBlank, List: classes.Spaces})
	c := known()
	for i := range c {
		c[i] = roomy(c[i])
	}
	if x := made(t, c); x.Of(0x10f000) != api.Other {
		t.Error("a Table reads the spare room")
	}
}

// R9: several goroutines may ask one Table, as they may ask a model.
func TestTablesAreAskedTogether(t *testing.T) {
	s := "ab1 \u00e9\xff!\n\n7x"
	x := made(t, known())
	seq := x.Runs(s)
	var all sync.WaitGroup
	for range 8 {
		all.Go(func() {
			for range 50 {
				if got, want := slices.Collect(seq), plainRuns(known(), s); !slices.Equal(got, want) {
					t.Errorf("%v, want %v", got, want)
				}
			}
		})
	}
	all.Wait()
}
