package utf_test

import (
	"slices"
	"strings"
	"testing"
	"unicode/utf8"

	"tessera/utf"
)

func items(s string) []utf.Item { return slices.Collect(utf.Items(s)) }

// P2.1

func TestItemsOfKnownTexts(t *testing.T) {
	for s, want := range map[string][]utf.Item{
		"":                  nil,
		"a":                 {{From: 0, Bytes: 1, Rune: 'a'}},
		"\x00":              {{From: 0, Bytes: 1, Rune: 0}},
		"a\xe2\x82\xac\xff": {{From: 0, Bytes: 1, Rune: 'a'}, {From: 1, Bytes: 3, Rune: 0x20ac}, badAt(4)},
		"\xe2\x82a":         {badAt(0), badAt(1), {From: 2, Bytes: 1, Rune: 'a'}},
		"\xc3\xa9\xf0\x9f\x98\x80!": {
			{From: 0, Bytes: 2, Rune: 0xe9}, {From: 2, Bytes: 4, Rune: 0x1f600}, {From: 6, Bytes: 1, Rune: '!'},
		},
		"\xef\xbf\xbd":     {{From: 0, Bytes: 3, Rune: 0xfffd}},
		"\xff\xef\xbf\xbd": {badAt(0), {From: 1, Bytes: 3, Rune: 0xfffd}},
		"\xef\xbf":         {badAt(0), badAt(1)},
		"\x80":             {badAt(0)},
		"\xff\xfe\x80":     {badAt(0), badAt(1), badAt(2)},
		"a\xc3":            {{From: 0, Bytes: 1, Rune: 'a'}, badAt(1)},
		"\xf0\x9f\x98":     {badAt(0), badAt(1), badAt(2)},
		"\xf0\x9f\xc3\xa9": {badAt(0), badAt(1), {From: 2, Bytes: 2, Rune: 0xe9}},
		"\xc0\x80":         {badAt(0), badAt(1)},
		"\xe0\x9f\xbf":     {badAt(0), badAt(1), badAt(2)},
		"\xed\xa0\x80":     {badAt(0), badAt(1), badAt(2)},
		"\xed\xbf\xbf":     {badAt(0), badAt(1), badAt(2)},
		"\xf0\x8f\xbf\xbf": {badAt(0), badAt(1), badAt(2), badAt(3)},
		"\xf4\x90\x80\x80": {badAt(0), badAt(1), badAt(2), badAt(3)},
		"\xf5\x80\x80\x80": {badAt(0), badAt(1), badAt(2), badAt(3)},
	} {
		if l := items(s); !slices.Equal(l, want) {
			t.Errorf("Items(%q): %+v, want %+v", s, l, want)
		}
	}
}

func TestItemsOfEachRow(t *testing.T) {
	for s := range rows {
		want := []utf.Item{{From: 0, Bytes: 1, Rune: 'a'}, runeAt(1, s), badAt(1 + len(s))}
		if l := items("a" + s + "\xff"); !slices.Equal(l, want) {
			t.Errorf("Items of a, % x, FF: %+v, want %+v", s, l, want)
		}
		for n := 1; n < len(s); n++ {
			for i, x := range items(s[:n]) {
				if x != badAt(i) {
					t.Errorf("Items of % x, a beginning: %+v at %d", s[:n], x, i)
				}
			}
		}
	}
}

func TestItemsOfEachRune(t *testing.T) {
	for r := rune(0); r <= 0x10ffff; r++ {
		if r >= 0xd800 && r <= 0xdfff {
			continue
		}
		s, n := string(r), 0
		for x := range utf.Items(s) {
			if n++; x != (utf.Item{From: 0, Bytes: len(s), Rune: r}) {
				t.Fatalf("Items of %#x: %+v", r, x)
			}
		}
		if n != 1 {
			t.Fatalf("Items of %#x: %d of them", r, n)
		}
	}
}

func TestItemsByTheTable(t *testing.T) {
	for s := range shortTexts {
		if l, want := items(s), itemsByTable(s); !slices.Equal(l, want) {
			t.Fatalf("Items(%q): %+v, want %+v", s, l, want)
		}
	}
	for s := range longTexts {
		if l, want := items(s), itemsByTable(s); !slices.Equal(l, want) {
			t.Fatalf("Items(%q): %+v, want %+v", s, l, want)
		}
	}
}

// An item is what ranging over a text meets.
func TestItemsAreWhatRangingMeets(t *testing.T) {
	for s := range longTexts {
		var want []utf.Item
		for at, r := range s {
			_, n := utf8.DecodeRuneInString(s[at:])
			want = append(want, utf.Item{From: at, Bytes: n, Rune: r, Bad: r == 0xfffd && n == 1})
		}
		if l := items(s); !slices.Equal(l, want) {
			t.Fatalf("Items(%q): %+v, want %+v", s, l, want)
		}
	}
}

func TestItemsMayBeLeftAndRangedOverAgain(t *testing.T) {
	s := "a\xc3\xa9\xff\xe2\x82\xac\xf0\x9f"
	all := itemsByTable(s)
	seq := utf.Items(s)
	for n := range len(all) + 1 {
		var l []utf.Item
		for x := range seq {
			if len(l) == n {
				break
			}
			l = append(l, x)
		}
		if !slices.Equal(l, all[:n]) {
			t.Errorf("left behind %d: %+v, want %+v", n, l, all[:n])
		}
	}
	for round := range 2 {
		if l := slices.Collect(seq); !slices.Equal(l, all) {
			t.Errorf("round %d: %+v, want %+v", round, l, all)
		}
	}
	// One iteration within another one: neither is the other's place.
	for x := range seq {
		if l := slices.Collect(seq); !slices.Equal(l, all) {
			t.Errorf("within %+v: %+v, want %+v", x, l, all)
		}
	}
}

// Behind a yield that answered false nothing more is handed out, at the last item neither.
func TestItemsStopWhereTheyAreLeft(t *testing.T) {
	for _, s := range []string{"a", "abc", "\xff\xff", "\xc3\xa9\xc3"} {
		for n := range len(itemsByTable(s)) {
			calls := 0
			utf.Items(s)(func(utf.Item) bool {
				calls++
				return calls <= n
			})
			if calls != n+1 {
				t.Errorf("Items(%q) left at %d: %d calls", s, n, calls)
			}
		}
	}
}

// P2.2

func TestTailOfKnownTexts(t *testing.T) {
	for s, want := range map[string]int{
		"":                     0,
		"a":                    0,
		"a\xe2\x82":            2,
		"\xe2\x82\xac":         0,
		"\xf0\x9f\x98":         3,
		"\xed\xa0":             0,
		"\xc0":                 0,
		"\xc2":                 1,
		"\xdf":                 1,
		"\xe0":                 1,
		"\xe0\x9f":             0,
		"\xe0\xa0":             2,
		"\xed":                 1,
		"\xed\x9f":             2,
		"\xed\xa0\x80":         0,
		"\xef\xbf":             2,
		"\xf0":                 1,
		"\xf0\x8f":             0,
		"\xf0\x90":             2,
		"\xf0\x90\x80":         3,
		"\xf0\x90\x80\x80":     0,
		"\xf3\xbf\xbf":         3,
		"\xf4\x8f":             2,
		"\xf4\x90":             0,
		"\xf5":                 0,
		"\xff":                 0,
		"\x80\x80\x80":         0,
		"\xf0\xf0":             1,
		"\xf0\x9f\xe2\x82":     2,
		"\xe2\x82\xc3":         1,
		"\xc3\xa9\x82":         0,
		"\xf0\x9f\x98\x80\x80": 0,
		"\xf0\x9f\x98\x80\xf0": 1,
	} {
		if n := utf.Tail(s); n != want {
			t.Errorf("Tail(%q): %d, want %d", s, n, want)
		}
	}
}

func TestTailIsWhatAScannerHolds(t *testing.T) {
	for _, texts := range []func(func(string) bool){shortTexts, longTexts} {
		for s := range texts {
			x := utf.New()
			putAll(x, s)
			if n, want := utf.Tail(s), tailByTable(s); n != want || n != x.Held() {
				t.Fatalf("Tail(%q): %d, want %d; a scanner holds %d", s, n, want, x.Held())
			}
		}
	}
}

// P2.5

func TestReplaceOfKnownTexts(t *testing.T) {
	const mark = "\xef\xbf\xbd"
	for s, want := range map[string]string{
		"":                         "",
		"a":                        "a",
		"\x00\x7f":                 "\x00\x7f",
		"\xf0\x9f\x98a":            mark + "a",
		"\xed\xa0\x80":             mark + mark + mark,
		"\xe2\x82":                 mark,
		"\xc3":                     mark,
		"\xf0\x9f\x98":             mark,
		"\x80":                     mark,
		"\x80\xbf\xff":             mark + mark + mark,
		"\xc0\x80":                 mark + mark,
		"\xe0\x9f\xbf":             mark + mark + mark,
		"\xf0\x8f\xbf\xbf":         mark + mark + mark + mark,
		"\xf4\x90\x80\x80":         mark + mark + mark + mark,
		"\xf5\x80":                 mark + mark,
		"\xf0\xe2\x82\xac":         mark + "\xe2\x82\xac",
		"\xf0\xf0\x9f\xe2\x82\xc3": mark + mark + mark + mark,
		"\xe2\x82\xe2\x82\xac\xe2": mark + "\xe2\x82\xac" + mark,
		"a" + mark + "\xff":        "a" + mark + mark,
		"\xf0\x9f\x98\x80":         "\xf0\x9f\x98\x80",
		"a\xf1\x80\x80\xe1\x80\xc2b\x80c\x80\xbfd": "a" + mark + mark + mark + "b" + mark + "c" + mark + mark + "d",
	} {
		if c := utf.Replace(s); c != want {
			t.Errorf("Replace(%q): %q, want %q", s, c, want)
		}
	}
}

func TestReplaceByTheTable(t *testing.T) {
	for _, texts := range []func(func(string) bool){shortTexts, longTexts} {
		for s := range texts {
			if c, want := utf.Replace(s), replaceByTable(s); c != want {
				t.Fatalf("Replace(%q): %q, want %q", s, c, want)
			}
		}
	}
}

// P2.7

func TestReplaceIsValid(t *testing.T) {
	for _, texts := range []func(func(string) bool){shortTexts, longTexts} {
		for s := range texts {
			c := utf.Replace(s)
			if !utf8.ValidString(c) {
				t.Fatalf("Replace(%q): %q is not valid", s, c)
			}
			if utf8.ValidString(s) && c != s {
				t.Fatalf("Replace(%q): %q, but it was valid", s, c)
			}
			if again := utf.Replace(c); again != c {
				t.Fatalf("Replace(%q), and once more: %q, %q", s, c, again)
			}
		}
	}
}

func TestReplaceOfWhatIsCut(t *testing.T) {
	asked := 0
	for s := range longTexts {
		for at := range len(s) + 1 {
			if utf.Tail(s[:at]) != 0 {
				continue
			}
			asked++
			if whole, parts := utf.Replace(s), utf.Replace(s[:at])+utf.Replace(s[at:]); whole != parts {
				t.Fatalf("Replace(%q): %q, but cut at %d %q", s, whole, at, parts)
			}
		}
	}
	if asked == 0 {
		t.Error("no text has a place with no tail")
	}
}

// R1: a text of any length is gone through.
func TestLongTexts(t *testing.T) {
	const n = 1 << 18
	for one, want := range map[string]struct{ items, bytes int }{
		"a":                {n, n},
		"\xff":             {n, 3 * n},
		"\xf0\x9f":         {2 * n, 3 * n},
		"\xf0\x9f\x98\x80": {n, 4 * n},
	} {
		s := strings.Repeat(one, n)
		count, end := 0, 0
		for x := range utf.Items(s) {
			if x.From != end {
				t.Fatalf("%q many times: an item at %d, want %d", one, x.From, end)
			}
			count++
			end += x.Bytes
		}
		if count != want.items || end != len(s) {
			t.Errorf("%q many times: %d items, %d bytes", one, count, end)
		}
		if c := utf.Replace(s); len(c) != want.bytes {
			t.Errorf("%q many times: Replace has %d bytes, want %d", one, len(c), want.bytes)
		}
		if got := utf.Tail(s); got != tailByTable(one) {
			t.Errorf("%q many times: Tail %d", one, got)
		}
	}
}
