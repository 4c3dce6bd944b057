package recipe_test

import (
	"bytes"
	"math"
	"math/rand"
	"strings"
	"testing"

	"tessera/api"
	"tessera/file"
	"tessera/model"
	"tessera/recipe"
)

// P7.2

func TestQuoteOfKnownWords(t *testing.T) {
	for _, c := range []struct{ word, want string }{
		{"", `""`}, {"a", `"a"`}, {" ", `" "`}, {"~", `"~"`}, {"#", `"#"`}, {"ab", `"ab"`}, {"\"", `"\""`}, {"\\", `"\\"`}, {"\\\"", `"\\\""`}, {"\\n", `"\\n"`},
		{"a\"\n", `"a\"\0a"`}, {"\x00", `"\00"`}, {"\x1f ", `"\1f "`}, {"\x7f~", `"\7f~"`}, {"\x80\xab\xff", `"\80\ab\ff"`}, {"é€", `"\c3\a9\e2\82\ac"`}, {"\t\r\n", `"\09\0d\0a"`}, {"\x0012", `"\0012"`},
	} {
		if got := recipe.Quote(c.word); got != c.want {
			t.Errorf("Quote(%q): %s, want %s", c.word, got, c.want)
		}
	}
}

// someWords hands out words of all sorts.
func someWords(yield func(string) bool) {
	l := []string{"", strings.Repeat("\"\\", 300), strings.Repeat("\xff", 1<<16), "merge \"a\" + \"b\" = 256\n"}
	for c := range 256 {
		for _, d := range []byte("a\"\\0\n\xff") {
			l = append(l, string([]byte{byte(c), d}), string([]byte{d, byte(c)}))
		}
		l = append(l, string([]byte{byte(c)}))
	}
	r := rand.New(rand.NewSource(7))
	for range 2000 {
		b := make([]byte, r.Intn(30))
		for i := range b {
			b[i] = byte(r.Intn(256))
		}
		l = append(l, string(b))
	}
	for _, w := range l {
		if !yield(w) {
			return
		}
	}
}

func TestQuote(t *testing.T) {
	for w := range someWords {
		got := recipe.Quote(w)
		if got != plainQuote(w) {
			t.Fatalf("Quote(%q): %s, want %s", w, got, plainQuote(w))
		}
		for _, c := range []byte(got) {
			if c < 0x20 || c > 0x7e {
				t.Fatalf("Quote(%q): %q has the byte %#x", w, got, c)
			}
		}
		if len(w) == 1 {
			parsed(t, "merge "+got+"+"+got+"=256", api.Data{Words: []string{w + w}, Merges: []api.Merge{join(int(w[0]), int(w[0]), 256)}})
		} else if len(w) < 1000 {
			refused(t, "merge \"a\" + "+got+" = 256", 12, api.ErrPart) // it is a WORD, which nothing made
		}
	}
}

// P7.3

func TestPrintOfKnownData(t *testing.T) {
	for _, c := range []struct {
		d    api.Data
		want string
	}{
		{api.Data{}, "letters { }\nnumbers { }\nspaces { }\n"},
		{of(nil), "letters { }\nnumbers { }\nspaces { U+0020 }\n"},
		{of([]string{"ab"}, join('a', 'b', 256)), "merge \"a\" + \"b\" = 256\nletters { }\nnumbers { }\nspaces { U+0020 }\n"},
		{known(), "merge \"a\" + \"b\" = 256\nmerge \"ab\" + \"c\" = 258\nmerge \"d\" + \"e\" = 259\nmerge \"abc\" + \"de\" = 257\nletters { U+0061 .. U+007A U+00E9 }\nnumbers { U+0030 .. U+0039 }\nspaces { U+0009 .. U+000A U+0020 }\n"},
		{api.Data{Words: []string{"\"\\", "\xff\x00"}, Merges: []api.Merge{join(255, 0, 257), join('"', '\\', 256)}}, "merge \"\\ff\" + \"\\00\" = 257\nmerge \"\\\"\" + \"\\\\\" = 256\nletters { }\nnumbers { }\nspaces { }\n"},
		{api.Data{Letters: []api.Span{span(0, 0), span(0, 1), span(5, 4)}, Numbers: []api.Span{span(0xabcd, 0x10ffff), span(0xd7ff, 0xe000)}, Spaces: []api.Span{span(0xfff, 0x1000), span(0xffff, 0x10000), span(0xfffff, 0x100000)}},
			"letters { U+0000 U+0000 .. U+0001 U+0005 .. U+0004 }\nnumbers { U+ABCD .. U+10FFFF U+D7FF .. U+E000 }\nspaces { U+0FFF .. U+1000 U+FFFF .. U+10000 U+FFFFF .. U+100000 }\n"},
	} {
		if got := printed(t, c.d); got != c.want {
			t.Errorf("Print(%s): %s, want %s", told(c.d), got, c.want)
		}
	}
}

func TestPrint(t *testing.T) {
	for d := range printable {
		printed(t, d)
	}
}

// wrongWords are ways in which the known data isn't right by words any more.
var wrongWords = []func(d *api.Data){
	func(d *api.Data) { d.Words = d.Words[:3] },
	func(d *api.Data) { d.Words = append(d.Words, "zz") },
	func(d *api.Data) { d.Words = nil },
	func(d *api.Data) { d.Merges = d.Merges[:3] },
	func(d *api.Data) { d.Merges = append(d.Merges, join('z', 'z', 260)) },
	func(d *api.Data) { d.Merges = append(d.Merges, d.Merges[0]) },
	func(d *api.Data) { d.Merges = nil },
	// Ids that are no word's, or another merge's.
	func(d *api.Data) { d.Merges[0].Id = 'x' },
	func(d *api.Data) { d.Merges[0].Id = 255 },
	func(d *api.Data) { d.Merges[3].Id = 260 },
	func(d *api.Data) { d.Merges[3].Id = -1 },
	func(d *api.Data) { d.Merges[3].Id = math.MinInt },
	func(d *api.Data) { d.Merges[3].Id = math.MaxInt },
	func(d *api.Data) { d.Merges[3].Id = 256 },
	func(d *api.Data) { d.Merges[1] = d.Merges[0] },
	func(d *api.Data) { d.Merges[2].Id = 258 },
	func(d *api.Data) { d.Words[3], d.Merges[2] = "ab", join('a', 'b', 259) },
	// Parts that are no ids, or not made yet.
	func(d *api.Data) { d.Merges[0].Left = -1 },
	func(d *api.Data) { d.Merges[0].Right = math.MinInt },
	func(d *api.Data) { d.Merges[3].Left = 260 },
	func(d *api.Data) { d.Merges[3].Right = math.MaxInt },
	func(d *api.Data) { d.Merges[0].Left = 256 },
	func(d *api.Data) { d.Merges[2].Right = 257 },
	func(d *api.Data) { d.Merges[1], d.Merges[0] = d.Merges[0], d.Merges[1] },
	func(d *api.Data) { d.Merges[2], d.Merges[3] = d.Merges[3], d.Merges[2] },
	// Words that are not those of the parts.
	func(d *api.Data) { d.Words[0] = "ac" },
	func(d *api.Data) { d.Words[0] = "ba" },
	func(d *api.Data) { d.Words[0] = "abc" },
	func(d *api.Data) { d.Words[1] = "abcd" },
	func(d *api.Data) { d.Words[1] = "abcdea" },
	func(d *api.Data) { d.Words[3] = "dee" },
	func(d *api.Data) { d.Words[0], d.Words[3] = d.Words[3], d.Words[0] },
	func(d *api.Data) { d.Merges[3] = join(259, 258, 257) },
	func(d *api.Data) { d.Merges[0].Left = 'A' },
	func(d *api.Data) { d.Merges[1].Right = 'd' },
	// Words that are alike, or too short.
	func(d *api.Data) { d.Words[1] = d.Words[0] },
	func(d *api.Data) { d.Words, d.Merges = append(d.Words, "abc"), append(d.Merges, join(256, 'c', 260)) },
	func(d *api.Data) {
		d.Words, d.Merges = append(d.Words, "bc", "abc"), append(d.Merges, join('b', 'c', 260), join('a', 260, 261))
	},
	func(d *api.Data) { d.Words[0] = "a" },
	func(d *api.Data) { d.Words[3] = "" },
	func(d *api.Data) { d.Words = []string{"", "", "", ""} },
	func(d *api.Data) { d.Words = []string{"a"}; d.Merges = []api.Merge{join('a', 'a', 256)} },
}

// noRunes are no scalar values.
var noRunes = []rune{-1, math.MinInt32, -0x10ffff, 0xd800, 0xd801, 0xdabc, 0xdbff, 0xdc00, 0xdfff, 0x110000, 0x110001, 0x200020, math.MaxInt32}

// unprinted holds what Print answers of d against a refusal, and this against the chapter.
func unprinted(t *testing.T, d api.Data, want api.Errno) {
	t.Helper()
	if s, why := recipe.Print(d); s != "" || why != want {
		t.Errorf("Print(%s): %s, %v, want %v", told(d), told(s), why, want)
	}
	if s, why := plainPrint(d); s != "" || why != want {
		t.Errorf("plain Print(%s): %s, %v, want %v", told(d), told(s), why, want)
	}
}

func TestPrintOfWrongWords(t *testing.T) {
	for _, spoil := range wrongWords {
		d := known()
		spoil(&d)
		unprinted(t, d, api.ErrWord)
		for _, r := range noRunes {
			both := copied(d)
			both.Letters[0].Lo = r
			unprinted(t, both, api.ErrWord) // of the two the words first
		}
		for _, other := range wrongWords {
			both := copied(known())
			spoil(&both)
			if len(both.Words) > 3 && len(both.Merges) > 3 {
				other(&both)
			}
			if got, why := recipe.Print(both); why != api.OK {
				unprinted(t, both, api.ErrWord)
			} else if want, _ := plainPrint(both); got != want { // each undoes the other
				t.Errorf("Print(%s): %s, want %s", told(both), got, want)
			}
		}
	}
	unprinted(t, of([]string{"ab"}), api.ErrWord)
	unprinted(t, of(nil, join('a', 'b', 256)), api.ErrWord)
	unprinted(t, of([]string{"aa"}, join(256, 256, 256)), api.ErrWord)
	unprinted(t, api.Data{Words: make([]string, 1<<16), Merges: make([]api.Merge, 1<<16)}, api.ErrWord)
}

func TestPrintOfWrongRunes(t *testing.T) {
	for _, r := range noRunes {
		for list := range 3 {
			for row := range 3 {
				for _, x := range []api.Span{span(r, r), span(r, 'z'), span(r, 0x10ffff), span(0, r), span('a', r)} {
					d := known()
					l := []*[]api.Span{&d.Letters, &d.Numbers, &d.Spaces}[list]
					*l = []api.Span{span(1, 2), span(0xd7ff, 0xe000), span(0x10ffff, 0x10ffff)}
					(*l)[row] = x
					unprinted(t, d, api.ErrRune)
					d.Words, d.Merges = nil, nil
					unprinted(t, d, api.ErrRune)
					d.Words = []string{"ab"}
					unprinted(t, d, api.ErrWord)
				}
			}
		}
	}
	for _, r := range []rune{0, 0xd7ff, 0xe000, 0x10ffff} {
		printed(t, api.Data{Letters: []api.Span{span(r, r)}, Numbers: []api.Span{span(r, 'a')}, Spaces: []api.Span{span('a', r)}})
	}
}

// Neither their number, nor the length of words, nor the order of spans is asked.
func TestPrintDoesNotAskForRightModels(t *testing.T) {
	for _, d := range []api.Data{pairs(api.MaxMerges + 1), rising(1, api.MaxWord+1), {Letters: manySpans(api.MaxSpans+1, 0)}, {Numbers: []api.Span{span(9, 9), span(9, 9), span(5, 3)}}} {
		if _, f := model.New(d); f.Why == api.OK {
			t.Errorf("%s is right", told(d))
		}
		printed(t, d)
	}
}

// P7.4 (W7)

func TestThereAndBack(t *testing.T) {
	for d := range printable {
		s := printed(t, d)
		if len(s) > api.MaxFile {
			t.Errorf("%s: a text of %d bytes", told(d), len(s))
		}
		got, p, why := recipe.Parse(s)
		if !same(got, d) || p != (recipe.Place{}) || why != api.OK {
			t.Fatalf("%s: Parse of its Print: %s, %+v, %v", told(d), told(got), p, why)
		}
		if again := printed(t, got); again != s {
			t.Errorf("%s: printed again: %s, was %s", told(d), told(again), told(s))
		}
	}
	r := rand.New(rand.NewSource(8))
	for range 2000 {
		d := someRight(r, r.Intn(30))
		for _, l := range []*[]api.Span{&d.Letters, &d.Numbers, &d.Spaces} {
			*l = nil
			for range r.Intn(4) {
				*l = append(*l, span(rune(r.Intn(0xd800)), rune(0xe000+r.Intn(0x102000))))
			}
		}
		if got, p, why := recipe.Parse(printed(t, d)); !same(got, d) || p != (recipe.Place{}) || why != api.OK {
			t.Fatalf("%s: Parse of its Print: %s, %+v, %v", told(d), told(got), p, why)
		}
	}
}

// Texts of about MaxFile bytes: one more is printed, but not parsed.
func TestThereAndBackOfLongTexts(t *testing.T) {
	rest := len("letters { }\nnumbers { }\nspaces { }\n")
	n := (api.MaxFile - rest) / 7
	d := api.Data{Letters: make([]api.Span, n)}
	for i := range (api.MaxFile - rest) % 7 {
		d.Letters[1+i] = span(0x10000, 0x10000) // one byte more than U+0000
	}
	for _, c := range []struct {
		first api.Span
		bytes int
		why   api.Errno
	}{{span(0, 0), api.MaxFile, api.OK}, {span(0x10000, 0x10000), api.MaxFile + 1, api.ErrLong}} {
		d.Letters[0] = c.first
		s, why := recipe.Print(d)
		if len(s) != c.bytes || why != api.OK {
			t.Fatalf("%d bytes, %v, want %d", len(s), why, c.bytes)
		}
		got, p, why := recipe.Parse(s)
		if why != c.why || same(got, d) != (why == api.OK) || p != (recipe.Place{}) && why == api.OK {
			t.Errorf("%d bytes: %+v, %v, want %v", len(s), p, why, c.why)
		}
	}
}

// A right model's text is no longer than MaxFile, and makes that model again.
func TestThereAndBackOfModels(t *testing.T) {
	for d := range rightOnes {
		m, f := model.New(d)
		if m == nil {
			t.Fatalf("New(%s): %+v", told(d), f)
		}
		got, _, why := recipe.Parse(printed(t, m.Data()))
		if why != api.OK {
			t.Fatalf("%s: %v", told(d), why)
		}
		again, f := model.New(got)
		if again == nil || !bytes.Equal(file.Save(again), file.Save(m)) {
			t.Errorf("New(%s): %+v, another model", told(got), f)
		}
	}
}
