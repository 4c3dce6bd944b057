package classes_test

import (
	"math/rand"
	"slices"
	"strings"
	"testing"

	"tessera/api"
	"tessera/classes"
)

// parts are pieces of texts: items of each kind and of each length, bad bytes, and beginnings of what could be more.
var parts = []string{
	"a", "z", "1", " ", "\n", "'", "!", "\u00e9", "\u00a0", "\u0660", "\u20ac", "\u2000", "\ufffd", "\ue000", "\U0001f600", "\U0001f603", "\U0010ffff",
	"\xff", "\x80", "\xc0", "\xc3", "\xef", "\xef\xbf", "\xed\xa0\x80", "\xf0\x9f\x98", "\xbd",
}

// P4.3

func TestRunsOfKnownTexts(t *testing.T) {
	x := made(t, known())
	for _, c := range []struct {
		s    string
		want []classes.Run
	}{
		{"", nil},
		{"a", []classes.Run{run(api.Letter, 0, 1, 1)}},
		{" ", []classes.Run{run(api.Space, 0, 1, 1)}},
		{"7", []classes.Run{run(api.Number, 0, 1, 1)}},
		{"\xff", []classes.Run{run(api.Other, 0, 1, 1)}},
		{"\U0001f600", []classes.Run{run(api.Other, 0, 4, 1)}},
		{"ab1 \u00e9", []classes.Run{run(api.Letter, 0, 2, 2), run(api.Number, 2, 3, 1), run(api.Space, 3, 4, 1), run(api.Other, 4, 6, 1)}},
		{"\xff!", []classes.Run{run(api.Other, 0, 2, 2)}},
		{"!\xff", []classes.Run{run(api.Other, 0, 2, 2)}},
		{"\xe2\x82a", []classes.Run{run(api.Other, 0, 2, 2), run(api.Letter, 2, 3, 1)}},
		{"a\xe2\x82", []classes.Run{run(api.Letter, 0, 1, 1), run(api.Other, 1, 3, 2)}},
		{"\u20ac\xe2\u20ac", []classes.Run{run(api.Other, 0, 7, 3)}},
		{"a1a1", []classes.Run{run(api.Letter, 0, 1, 1), run(api.Number, 1, 2, 1), run(api.Letter, 2, 3, 1), run(api.Number, 3, 4, 1)}},
		{" \n\t  ", []classes.Run{run(api.Space, 0, 5, 5)}},
	} {
		if got := slices.Collect(x.Runs(c.s)); !slices.Equal(got, c.want) {
			t.Errorf("Runs(%q): %v, want %v", c.s, got, c.want)
		}
	}
}

// With U+FFFD in a list, bad bytes and real ones side by side are two runs.
func TestRunsOfBadBytesAndMarks(t *testing.T) {
	s := "\ufffd\xff\ufffd\ufffd\xef\xef\xbf!\ufffd"
	for number, kind := range map[int]int{classes.Letters: api.Letter, classes.Numbers: api.Number, classes.Spaces: api.Space} {
		want := []classes.Run{run(kind, 0, 3, 1), run(api.Other, 3, 4, 1), run(kind, 4, 10, 2), run(api.Other, 10, 14, 4), run(kind, 14, 17, 1)}
		if got := slices.Collect(made(t, withMark(number)).Runs(s)); !slices.Equal(got, want) {
			t.Errorf("U+FFFD in the list %d: %v, want %v", number, got, want)
		}
	}
	want := []classes.Run{run(api.Other, 0, 17, 9)}
	if got := slices.Collect(made(t, known()).Runs(s)); !slices.Equal(got, want) {
		t.Errorf("U+FFFD in no list: %v, want %v", got, want)
	}
}

// checkRuns holds the runs of s against the chapter.
func checkRuns(t *testing.T, x *classes.Table, c three, s string) {
	t.Helper()
	if got, want := slices.Collect(x.Runs(s)), plainRuns(c, s); !slices.Equal(got, want) {
		t.Fatalf("%v: Runs(%q): %v, want %v", c, s, got, want)
	}
}

func TestRunsOfEachShortText(t *testing.T) {
	for c := range tables {
		x := made(t, c)
		checkRuns(t, x, c, "")
		for _, p := range parts {
			checkRuns(t, x, c, p)
			for _, q := range parts {
				checkRuns(t, x, c, p+q)
				for _, r := range parts {
					checkRuns(t, x, c, p+q+r)
				}
			}
		}
	}
}

func TestRunsOfManyTexts(t *testing.T) {
	r := rand.New(rand.NewSource(2))
	for c := range tables {
		x := made(t, c)
		for range 500 {
			var b strings.Builder
			for range r.Intn(30) {
				b.WriteString(strings.Repeat(parts[r.Intn(len(parts))], 1+r.Intn(3)))
			}
			checkRuns(t, x, c, b.String())
		}
	}
}

func TestRunsOfLongTexts(t *testing.T) {
	x := made(t, known())
	const n = 1 << 16
	if got, want := slices.Collect(x.Runs(strings.Repeat("a", n))), []classes.Run{run(api.Letter, 0, n, n)}; !slices.Equal(got, want) {
		t.Errorf("one run: %v", got)
	}
	if got, want := slices.Collect(x.Runs(strings.Repeat("\xff\u20ac", n))), []classes.Run{run(api.Other, 0, 4*n, 2*n)}; !slices.Equal(got, want) {
		t.Errorf("one run of others: %v", got)
	}
	at := 0
	for got := range x.Runs(strings.Repeat("a 1!", n)) {
		kind := []int{api.Letter, api.Space, api.Number, api.Other}[at%4]
		if got != run(kind, at, at+1, 1) {
			t.Fatalf("runs of one item: %v at %d", got, at)
		}
		at++
	}
	if at != 4*n {
		t.Errorf("runs of one item: %d, want %d", at, 4*n)
	}
}

func TestRunsMayBeLeftAndGoneOverAgain(t *testing.T) {
	s := "ab1 \u00e9\xff!\n\n7x"
	all := plainRuns(known(), s)
	seq := made(t, known()).Runs(s)
	for n := range all {
		var got []classes.Run
		for x := range seq {
			if got = append(got, x); len(got) == n+1 {
				break
			}
		}
		if !slices.Equal(got, all[:n+1]) {
			t.Errorf("left behind %d: %v, want %v", n+1, got, all[:n+1])
		}
	}
	for range 2 {
		if got := slices.Collect(seq); !slices.Equal(got, all) {
			t.Errorf("gone over again: %v, want %v", got, all)
		}
	}
}

// What is left early isn't asked for more.
func TestRunsEndWhereTheyAreLeft(t *testing.T) {
	s := "ab1 \u00e9\xff!\n\n7x"
	seq := made(t, known()).Runs(s)
	for n := 1; n <= len(plainRuns(known(), s)); n++ {
		calls := 0
		seq(func(classes.Run) bool {
			calls++
			return calls < n
		})
		if calls != n {
			t.Errorf("left at the run %d: %d were handed out", n, calls)
		}
	}
}

func TestRunsWithinThemselves(t *testing.T) {
	s := "ab1 \u00e9\xff!\n\n7x"
	want := plainRuns(known(), s)
	seq := made(t, known()).Runs(s)
	var outer []classes.Run
	for x := range seq {
		outer = append(outer, x)
		if inner := slices.Collect(seq); !slices.Equal(inner, want) {
			t.Fatalf("Runs within %v: %v, want %v", x, inner, want)
		}
	}
	if !slices.Equal(outer, want) {
		t.Errorf("Runs about others: %v, want %v", outer, want)
	}
}

// A Run embeds its Piece.
func TestARunHasItsPiece(t *testing.T) {
	for x := range made(t, known()).Runs("ab") {
		if x.From != 0 || x.To != 2 || x.Piece != (api.Piece{From: 0, To: 2}) {
			t.Errorf("%v", x)
		}
	}
}
