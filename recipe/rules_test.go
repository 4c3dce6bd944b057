package recipe_test

import (
	"math"
	"math/rand"
	"slices"
	"strings"
	"testing"
	"unsafe"

	"tessera/api"
	"tessera/recipe"
)

// someTexts hands out texts of all sorts: none, recipes, parts of recipes, what begins like one, and what doesn't.
func someTexts(yield func(string) bool) {
	l := []string{"", "\x00", "BPE1", "package main\n\nfunc main() {}\n", "{\"merges\": []}", strings.Repeat("\xff", 1<<16), strings.Repeat("{", 1<<16), strings.Repeat("\\", 1<<12), strings.Repeat("\"", 1<<12), "\"" + strings.Repeat("\\0", 1<<12), strings.Repeat("merge ", 1<<10), strings.Repeat("letters{", 1<<10), strings.Repeat("9", 1<<16), "U+" + strings.Repeat("F", 1<<16), strings.Repeat(".", 1<<12), strings.Repeat("#", 1<<16), "letters{" + strings.Repeat("U+0041..", 1<<10)}
	for d := range printable {
		if len(d.Words)+len(d.Letters)+len(d.Spaces) < 400 {
			s, _ := plainPrint(d)
			l = append(l, s, s+s, s[1:], s[:len(s)/2], "#"+s, "\""+s)
		}
	}
	r := rand.New(rand.NewSource(9))
	for range 3000 {
		b := make([]byte, r.Intn(60))
		for i := range b {
			b[i] = byte(r.Intn(256))
		}
		var s string
		for range r.Intn(12) {
			s += pieces[r.Intn(len(pieces))] + []string{"", " ", "\n"}[r.Intn(3)]
		}
		l = append(l, string(b), "merge "+string(b), "letters { "+string(b), "merge \""+string(b), s)
	}
	for _, s := range l {
		if !yield(s) {
			return
		}
	}
}

// R1, R3: whatever text is given, Parse ends, and answers either data or a refusal of the chapter, at a place of the text.
func TestParseOfWhateverText(t *testing.T) {
	for s := range someTexts {
		d, n := like(t, s)
		if n.why != api.OK && !isEmpty(d) || n.at < 0 || n.at > len(s) {
			t.Fatalf("%s: %s, %+v", told(s), told(d), n)
		}
	}
}

// R1, R3: whatever data is given, Print ends, and answers either a text or a refusal of the chapter.
func TestPrintOfWhateverData(t *testing.T) {
	r := rand.New(rand.NewSource(10))
	ids := []int{math.MinInt, -257, -1, 0, 1, 255, 256, 257, 258, 259, 511, 512, math.MaxInt - 256, math.MaxInt, 'a', 'b'}
	words := []string{"", "a", "ab", "aa", "ba", "aab", "\x00\x01", "\x01\x00", "\xff\xff", strings.Repeat("a", 257), strings.Repeat("a", 1<<16)}
	ends := []rune{math.MinInt32, -1, 0, 9, 32, 0xd7ff, 0xd800, 0xdfff, 0xe000, 0x10ffff, 0x110000, math.MaxInt32}
	seen := map[api.Errno]int{}
	for range 20000 {
		var d api.Data
		n := r.Intn(5)
		for range n {
			d.Words = append(d.Words, words[r.Intn(len(words))])
			d.Merges = append(d.Merges, join(ids[r.Intn(len(ids))], ids[r.Intn(len(ids))], 256+r.Intn(n)))
		}
		if r.Intn(2) == 0 {
			d = someRight(r, n)
		}
		for i := range d.Merges {
			if r.Intn(4) == 0 {
				*[]*int{&d.Merges[i].Left, &d.Merges[i].Right, &d.Merges[i].Id}[r.Intn(3)] = ids[r.Intn(len(ids))]
			}
		}
		d.Spaces = nil
		for _, l := range []*[]api.Span{&d.Letters, &d.Numbers, &d.Spaces} {
			for range r.Intn(2) {
				*l = append(*l, span(ends[r.Intn(len(ends))], ends[r.Intn(len(ends))]))
			}
		}
		s, why := recipe.Print(d)
		want, no := plainPrint(d)
		if s != want || why != no || (s == "") != (why != api.OK) {
			t.Fatalf("Print(%s): %s, %v, want %s, %v", told(d), told(s), why, told(want), no)
		}
		seen[why]++
	}
	if seen[api.OK] < 500 || seen[api.ErrWord] < 500 || seen[api.ErrRune] < 500 {
		t.Errorf("tried: %v", seen)
	}
	big := pairs(1 << 16)
	for _, d := range []api.Data{{Words: big.Words}, {Merges: big.Merges}, {Words: make([]string, 1<<16), Merges: make([]api.Merge, 1<<16)}, {Letters: make([]api.Span, 1<<16)}, big} {
		s, why := recipe.Print(d)
		if want, no := plainPrint(d); s != want || why != no {
			t.Errorf("Print(%s): %s, %v, want %v", told(d), told(s), why, no)
		}
	}
}

// roomy answers l with spare room behind it, in which more stands.
func roomy[T any](l []T, more ...T) []T {
	return slices.Concat(l, more)[:len(l)]
}

// withRoom answers d in lists that have spare room, in which it could go on.
func withRoom(d api.Data) api.Data {
	return api.Data{
		Words: roomy(d.Words, "zz", "ab"), Merges: roomy(d.Merges, join('z', 'z', 256+len(d.Words)), join(-1, -1, -1)),
		Letters: roomy(d.Letters, span(-1, -1)), Numbers: roomy(d.Numbers, span(1, 2)), Spaces: roomy(d.Spaces, span(0xd800, 5)),
	}
}

// whole answers d's lists with all that they have room for.
func whole(d api.Data) api.Data {
	return api.Data{
		Words: d.Words[:cap(d.Words)], Merges: d.Merges[:cap(d.Merges)],
		Letters: d.Letters[:cap(d.Letters)], Numbers: d.Numbers[:cap(d.Numbers)], Spaces: d.Spaces[:cap(d.Spaces)],
	}
}

// overwrite writes over all that d's lists have room for; n tells one writing from another.
func overwrite(d api.Data, n int) {
	d = whole(d)
	for i := range d.Words {
		d.Words[i] = strings.Repeat("z", n)
	}
	for i := range d.Merges {
		d.Merges[i] = join(n, n, n)
	}
	for k, l := range [][]api.Span{d.Letters, d.Numbers, d.Spaces} {
		for i := range l {
			l[i] = span(rune(n), rune(k))
		}
	}
}

// R2, R5: the lists that are handed to Print stay as they were, their spare room too, which isn't read.
func TestDataStayAsTheyWere(t *testing.T) {
	spoilt := func(yield func(api.Data) bool) {
		for d := range printable {
			if !yield(d) {
				return
			}
		}
		for _, spoil := range wrongWords {
			d := known()
			spoil(&d)
			if !yield(d) {
				return
			}
		}
	}
	for d := range spoilt {
		in := withRoom(d)
		before := copied(whole(in))
		s, why := recipe.Print(in)
		if want, no := plainPrint(d); s != want || why != no {
			t.Fatalf("Print(%s): %s, %v, want %s, %v", told(d), told(s), why, told(want), no)
		}
		if !same(whole(in), before) {
			t.Fatalf("the lists were changed: %s, were %s", told(whole(in)), told(before))
		}
		overwrite(in, 3)
		if want, _ := plainPrint(d); s != want {
			t.Fatalf("Print(%s): the text went along: %s", told(d), told(s))
		}
	}
}

// R2: what Parse answers is new memory each time, its spare room too.
func TestAnswersAreNewMemory(t *testing.T) {
	for s := range someTexts {
		if d, _ := like(t, s); isEmpty(d) {
			continue
		}
		one, _, _ := recipe.Parse(s)
		two, _, _ := recipe.Parse(s)
		overwrite(one, 2)
		if want, _ := plainParse(s); !same(two, want) {
			t.Fatalf("Parse(%s): another answer went along: %s", told(s), told(two))
		}
		like(t, s)
	}
}

// R2: no two lists of one answer share memory.
func TestListsOfOneAnswerAreApart(t *testing.T) {
	src := "letters{U+0001}numbers{U+0002}spaces{U+0003}"
	for _, s := range []string{src, src + src, src + src + src + src + "numbers{U+0001..U+0002 U+0003}letters{U+0004}"} {
		d, _, _ := recipe.Parse(s)
		lists := [][]api.Span{d.Letters, d.Numbers, d.Spaces}
		for k, l := range lists {
			for i := range l[:cap(l)] {
				l[:cap(l)][i] = span(rune(k), rune(k))
			}
		}
		for k, l := range lists {
			for _, x := range l[:cap(l)] {
				if x != span(rune(k), rune(k)) {
					t.Fatalf("%s: the list %d was written over: %v", s, k, l)
				}
			}
		}
	}
}

// R2: nothing of the text is kept: no word lies in it.
func TestWordsDoNotKeepTheText(t *testing.T) {
	for d := range printable {
		s := printed(t, d)
		got, _, _ := recipe.Parse(s)
		from := uintptr(unsafe.Pointer(unsafe.StringData(s)))
		for _, w := range got.Words {
			if at := uintptr(unsafe.Pointer(unsafe.StringData(w))); at >= from && at < from+uintptr(len(s)) {
				t.Fatalf("%s: the word %q lies in the text", told(d), w)
			}
		}
	}
}

// R2: a quoted word is new memory.
func TestQuotedWordsAreNewMemory(t *testing.T) {
	w := strings.Repeat("a", 100)
	from := uintptr(unsafe.Pointer(unsafe.StringData(w)))
	if at := uintptr(unsafe.Pointer(unsafe.StringData(recipe.Quote(w)))); at >= from && at < from+100 {
		t.Error("it lies in the word that was handed in")
	}
}

// R4: nil and empty lists mean the same.
func TestNoListAndAnEmptyOne(t *testing.T) {
	want := "letters { }\nnumbers { }\nspaces { }\n"
	for _, words := range [][]string{nil, {}, roomy(nil, "a", "a")} {
		for _, merges := range [][]api.Merge{nil, {}, roomy(nil, join(-1, -1, -1))} {
			for _, none := range [][]api.Span{nil, {}, roomy(nil, span(-5, 4))} {
				if s, why := recipe.Print(api.Data{Words: words, Merges: merges, Letters: none, Numbers: none, Spaces: none}); s != want || why != api.OK {
					t.Errorf("%q, %v", s, why)
				}
			}
			unprinted(t, api.Data{Words: []string{"ab"}, Merges: merges}, api.ErrWord)
		}
		unprinted(t, api.Data{Words: words, Merges: []api.Merge{join('a', 'b', 256)}}, api.ErrWord)
	}
}

// R4: what is answered hangs on what is given alone.
func TestAnswersAreTheSameEachTime(t *testing.T) {
	for d := range printable {
		one, _ := recipe.Print(d)
		two, _ := recipe.Print(copied(d))
		a, p, why := recipe.Parse(one)
		b, q, again := recipe.Parse(two)
		if one != two || !same(a, b) || p != q || why != again {
			t.Errorf("%s: %s, %s", told(d), told(one), told(two))
		}
	}
}
