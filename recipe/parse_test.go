package recipe_test

import (
	"fmt"
	"slices"
	"strings"
	"testing"

	"tessera/api"
	"tessera/recipe"
)

// P7.1: recipes

func TestParseOfKnownRecipes(t *testing.T) {
	ab := of([]string{"ab"}, join('a', 'b', 256))
	parsed(t, `merge "a"+"b"=256 spaces{U+0020}`, ab)
	parsed(t, "spaces{U+0020} merge \"a\" + \"b\" = 256\n", ab)
	parsed(t, "", api.Data{})
	parsed(t, "letters { } numbers{}spaces\n{\n}", api.Data{})
	parsed(t, `spaces { U+0020 }`, of(nil))
	parsed(t, `merge "a"+"b"=257 merge "ab"+"\0a"=256`, api.Data{Words: []string{"ab\n", "ab"}, Merges: []api.Merge{join('a', 'b', 257), join(257, 10, 256)}})
	parsed(t, `letters { U+0041 .. U+005A U+0061..U+007A U+00E9 } numbers { U+0030 .. U+0039 }`,
		api.Data{Letters: []api.Span{span('A', 'Z'), span('a', 'z'), span(0xe9, 0xe9)}, Numbers: []api.Span{span('0', '9')}})
	d := known()
	parsed(t, `
# a model
merge "a" + "b" = 256     merge "ab" + "c" = 258 # two in a line
merge "d"	+ "e" = 259
merge "abc" + "de" = 257
letters { U+0061 .. U+007A U+00E9 } numbers { U+0030 .. U+0039 }
spaces { U+0009 .. U+000A U+0020 }`, d)
}

// Several rules of one name lay their spans one behind the other, as they stand: nothing is sorted, and nothing is asked of them.
func TestParseOfSeveralRulesOfOneName(t *testing.T) {
	for _, name := range []string{"letters", "numbers", "spaces"} {
		for _, src := range []string{
			"N{U+0005..U+0004 U+0009 U+0009}",
			"N{U+0005..U+0004}N{U+0009}N{}N{U+0009}",
			"N{} merge \"a\"+\"b\"=256 N{U+0005..U+0004 U+0009} M{} N{U+0009}",
			"N{U+0005..U+0004 U+0009}#}\nN{U+0009}",
		} {
			want := api.Data{}
			l := []api.Span{span(5, 4), span(9, 9), span(9, 9)}
			switch name {
			case "letters":
				want.Letters = l
			case "numbers":
				want.Numbers = l
			case "spaces":
				want.Spaces = l
			}
			if strings.Contains(src, "merge") {
				want.Words, want.Merges = []string{"ab"}, []api.Merge{join('a', 'b', 256)}
			}
			other := map[string]string{"letters": "spaces", "numbers": "letters", "spaces": "numbers"}[name]
			parsed(t, strings.NewReplacer("N", name, "M", other).Replace(src), want)
		}
	}
	parsed(t, "spaces{U+0020}letters{U+0001}spaces{U+0009}numbers{U+0002}letters{U+0003}",
		api.Data{Letters: []api.Span{span(1, 1), span(3, 3)}, Numbers: []api.Span{span(2, 2)}, Spaces: []api.Span{span(32, 32), span(9, 9)}})
}

// Whether the data are right is not asked: not how many they are, either.
func TestParseDoesNotAskForRightModels(t *testing.T) {
	for _, d := range []api.Data{pairs(api.MaxMerges + 1), rising(1, api.MaxWord+20), {Spaces: manySpans(api.MaxSpans+1, 0)}} {
		parsed(t, printed(t, d), d)
	}
}

// P7.1: lengths

func TestParseOfLongTexts(t *testing.T) {
	long := strings.Repeat(" ", api.MaxFile+1)
	for _, src := range []string{long, long + long, strings.Repeat("x", api.MaxFile+1), "#" + long, strings.Repeat("\n", api.MaxFile) + "x", strings.Repeat("\"", api.MaxFile+1), printed(t, known()) + long} {
		if d, p, why := recipe.Parse(src); !isEmpty(d) || p != (recipe.Place{Byte: 0, Line: 1, Column: 1}) || why != api.ErrLong {
			t.Errorf("%d bytes: %s, %+v, %v", len(src), told(d), p, why)
		}
	}
	most := long[:api.MaxFile]
	last := api.MaxFile - 1
	for _, c := range []struct {
		src  string
		want recipe.Place
		why  api.Errno
	}{
		{most, recipe.Place{}, api.OK},
		{"#" + most[1:], recipe.Place{}, api.OK},
		{"spaces{}" + most[8:], recipe.Place{}, api.OK},
		{most[1:] + "x", recipe.Place{Byte: last, Line: 1, Column: 1 + last}, api.ErrToken},
		{strings.Repeat("\n", last) + "x", recipe.Place{Byte: last, Line: 1 + last, Column: 1}, api.ErrToken},
		{"merge" + most[5:], recipe.Place{Byte: 1 + last, Line: 1, Column: 2 + last}, api.ErrEnd},
		{"merge#" + strings.Repeat("\xff", last-5), recipe.Place{Byte: 1 + last, Line: 1, Column: 2 + last}, api.ErrEnd},
		{"merge \"" + most[7:], recipe.Place{Byte: 1 + last, Line: 1, Column: 2 + last}, api.ErrEnd},
		{"merge \"" + most[8:] + "\n", recipe.Place{Byte: 6, Line: 1, Column: 7}, api.ErrToken},
		{strings.Repeat("a", api.MaxFile), recipe.Place{Byte: 0, Line: 1, Column: 1}, api.ErrToken},
		{"spaces{}" + strings.Repeat("{", api.MaxFile-8), recipe.Place{Byte: 8, Line: 1, Column: 9}, api.ErrToken},
	} {
		d, p, why := recipe.Parse(c.src)
		if len(c.src) != api.MaxFile || p != c.want || why != c.why || !isEmpty(d) {
			t.Errorf("%d bytes, %.20q: %s, %+v, %v, want %+v, %v", len(c.src), c.src, told(d), p, why, c.want, c.why)
		}
	}
}

// As many merges, and as many spans, as a text has room for.
func TestParseOfFullTexts(t *testing.T) {
	var b strings.Builder
	n := 0
	for ; b.Len() < api.MaxFile-100; n++ {
		fmt.Fprintf(&b, "merge\"a\"+\"b\"=%d\n", 256+n)
	}
	d, p, why := recipe.Parse(b.String())
	if why != api.OK || len(d.Merges) != n || len(d.Words) != n || d.Merges[n-1] != join('a', 'b', 255+n) || d.Words[n-1] != "ab" {
		t.Errorf("%d merges: %d, %d, %+v, %v", n, len(d.Merges), len(d.Words), p, why)
	}
	src := "letters{" + strings.Repeat("U+0041 ", (api.MaxFile-9)/7) + "}"
	d, p, why = recipe.Parse(src)
	if why != api.OK || len(d.Letters) != (api.MaxFile-9)/7 {
		t.Errorf("%d, %+v, %v", len(d.Letters), p, why)
	}
	half := strings.Repeat("x", api.MaxFile/8)
	at := len("merge \"x\" + \"x\" = 256\nmerge ")
	refusedFast(t, "merge \"x\" + \"x\" = 256\nmerge \""+half+"\" + \"x\" = 257", at, api.ErrPart)
}

// refusedFast is refused of a long text: what Parse answers isn't held against the chapter word by word.
func refusedFast(t *testing.T, src string, at int, why api.Errno) {
	t.Helper()
	d, p, got := recipe.Parse(src)
	if want := plainPlace(src, at); p != want || got != why || !isEmpty(d) {
		t.Errorf("Parse(%s): %s, %+v, %v, want %+v, %v", told(src), told(d), p, got, want, why)
	}
}

// P7.1: tokens

// frames are the places of a recipe where a token of that kind may stand: what goes ahead of it, and what makes a recipe of it.
var frames = []struct{ kind, ahead, behind string }{
	{"name", "", "{}"}, {"name", "merge \"a\"+\"b\"=256 ", "{}"}, {"name", "letters{}\n", " { U+0041 }"},
	{"number", "merge \"a\"+\"b\"=", ""}, {"number", "merge \"a\" + \"b\" = ", " spaces{}"},
	{"word", "merge ", "+\"b\"=256"}, {"word", "merge \"a\"+", "=256"},
	{"rune", "letters{", "}"}, {"rune", "spaces { U+0041 ", " .. U+0042 }"}, {"rune", "numbers{U+0041..", "}"},
	{"sign", "letters", "}"},
}

// ahead hands out the frames of a kind.
func ahead(kind string) func(yield func(ahead, behind string) bool) {
	return func(yield func(string, string) bool) {
		for _, f := range frames {
			if f.kind == kind && !yield(f.ahead, f.behind) {
				return
			}
		}
	}
}

func TestParseOfNames(t *testing.T) {
	for a, b := range ahead("name") {
		for _, name := range []string{"letters", "numbers", "spaces"} {
			if _, n := like(t, a+name+b); n.why != api.OK {
				t.Errorf("%s: %+v", told(a+name+b), n)
			}
			for i := 1; i < len(name); i++ {
				refused(t, a+name[:i]+b, len(a), api.ErrToken)
				refused(t, a+name[:i], len(a), api.ErrToken)
				refused(t, a+name[:i]+" "+name[i:]+b, len(a), api.ErrToken)
				refused(t, a+name[:i]+strings.ToUpper(name[i:])+b, len(a), api.ErrToken)
			}
			for _, c := range "azAZ09_" {
				refused(t, a+name+string(c)+b, len(a), api.ErrToken)
				refused(t, a+name+string(c), len(a), api.ErrToken)
				refused(t, a+string(c)+name+b, len(a), api.ErrToken)
			}
		}
		for _, other := range []string{"words", "spans", "Merge", "LETTERS", "_", "space", "number", "letter", "merges", "u", "a", strings.Repeat("z", 1000)} {
			refused(t, a+other+b, len(a), api.ErrToken)
		}
	}
	parsed(t, `merge"a"+"b"=256`, api.Data{Words: []string{"ab"}, Merges: []api.Merge{join('a', 'b', 256)}})
	refused(t, "merge\xc3\xa9", 5, api.ErrToken) // no letter that goes on with a name: a byte that begins no token
	refused(t, "lettersé{}", 7, api.ErrToken)
}

func TestParseOfNumbers(t *testing.T) {
	for a, b := range ahead("number") {
		if _, n := like(t, a+"256"+b); n.why != api.OK {
			t.Errorf("%s: %+v", told(a+"256"+b), n)
		}
		for _, number := range []string{"0", "1", "9", "10", "99", "255", "257", "1000000256", "4294967552", "9999999999", "2147483648"} {
			refused(t, a+number+b, len(a), api.ErrId)
			for _, c := range "azAZ_" {
				refused(t, a+number+string(c)+b, len(a), api.ErrToken)
				refused(t, a+number+string(c), len(a), api.ErrToken)
				refused(t, a+string(c)+number+b, len(a), api.ErrToken)
			}
		}
		for _, number := range []string{"00", "01", "0256", "00000256", "0000000256", "00000000256", "09", "12345678901", "10000000000", "99999999999", "18446744073709551872", "4294967552256", strings.Repeat("1", 5000), "+256", "-1", "0x100", "0a", "2_56"} {
			refused(t, a+number+b, len(a), api.ErrToken)
			refused(t, a+number, len(a), api.ErrToken)
		}
	}
	parsed(t, `merge"a"+"b"=256#`, api.Data{Words: []string{"ab"}, Merges: []api.Merge{join('a', 'b', 256)}})
	refused(t, `merge"a"+"b"=256merge`, 13, api.ErrToken)
	refused(t, `merge"a"+"b"=256"a"`, 16, api.ErrToken)
	refused(t, `merge"a"+"b"=256{`, 16, api.ErrToken)
	refused(t, `merge"a"+"b"=256é`, 16, api.ErrToken)
	refused(t, `merge"a"+"b"=256.`, 16, api.ErrToken)
	refused(t, `merge"a"+"b"=2 56`, 15, api.ErrToken)
	refused(t, `merge"a"+"b"= `, 14, api.ErrEnd)
}

func TestParseOfWordsOfEachByte(t *testing.T) {
	for c := range 256 {
		one := string([]byte{byte(c)})
		shown := c >= 0x20 && c <= 0x7e
		small := fmt.Sprintf("%02x", c)
		for _, x := range []struct {
			word  string
			right bool
		}{
			{`"` + one + `"`, shown && c != '"' && c != '\\'},
			{`"\` + one + `"`, c == '"' || c == '\\'},
			{`"\` + small + `"`, !shown},
			{`"\` + strings.ToUpper(small) + `"`, !shown && small == strings.ToUpper(small)},
			{`"\` + small[1:] + `"`, false},
			{`"\x` + small + `"`, false},
		} {
			src := "merge " + x.word + "+\"b\"=256"
			if x.right {
				parsed(t, src, api.Data{Words: []string{one + "b"}, Merges: []api.Merge{join(c, 'b', 256)}})
			} else if _, n := like(t, src); n.why != api.ErrToken {
				t.Errorf("%s: %+v", told(src), n)
			}
		}
		for _, word := range []string{`"` + one, `"ab` + one, `"\0a` + one, `"\\` + one, `"\"` + one} {
			if !shown {
				refused(t, "merge "+word, 6, api.ErrToken)
				refused(t, "merge "+word+"\"", 6, api.ErrToken)
				refused(t, "merge \"a\"+"+word, 10, api.ErrToken)
			} else if c != '"' {
				refused(t, "merge "+word, 6+len(word), api.ErrEnd)
			}
		}
	}
}

// Behind `\` any two bytes: right are two small digits of a byte that isn't shown otherwise.
func TestParseOfEscapes(t *testing.T) {
	bytes := []byte("0123456789abcdefABFGgz/:@`.#+ \n\x00\xc3\xff")
	for _, x := range bytes {
		for _, y := range bytes {
			src := `merge "` + `\` + string([]byte{x, y}) + `" + "b" = 256`
			_, n := like(t, src)
			value := strings.IndexByte("0123456789abcdef", x)<<4 | strings.IndexByte("0123456789abcdef", y)
			if right := value >= 0 && value < 0x20 || value > 0x7e; right != (n.why == api.OK) || !right && n != (no{6, api.ErrToken}) {
				t.Errorf("%s: %+v", told(src), n)
			}
		}
	}
	parsed(t, `merge "\"" + "\\" = 256`, api.Data{Words: []string{`"\`}, Merges: []api.Merge{join('"', '\\', 256)}})
	parsed(t, `merge "\\" + "\"" = 256`, api.Data{Words: []string{`\"`}, Merges: []api.Merge{join('\\', '"', 256)}})
	parsed(t, `merge "#" + " " = 256 merge "# " + "\7f" = 257`, api.Data{Words: []string{"# ", "# \x7f"}, Merges: []api.Merge{join('#', ' ', 256), join(256, 0x7f, 257)}})
}

// A word that is right so far ends too early wherever it is cut off, a token or none being asked for there.
func TestParseOfWordsThatEndTooEarly(t *testing.T) {
	for _, ahead := range []string{"", "merge ", "merge \"a\"", "merge \"a\" + ", "merge\"a\"+\"b\"", "merge\"a\"+\"b\"=", "merge\"a\"+\"b\"=256", "letters", "letters{", "letters{U+0041", "letters{}", "merge \"zz\"+\"b\"=1 "} {
		for _, word := range []string{`"ab#+={}.. U+"`, `"\\\"\00\1f\7f\80\ff"`, `"a\0ab"`, `"\""`, `""`} {
			for n := 1; n < len(word); n++ {
				refused(t, ahead+word[:n], len(ahead)+n, api.ErrEnd)
			}
		}
		for _, word := range []string{"\"\n", "\"a\tb", `"\x`, `"\0x`, `"\A`, `"\0A`, `"\20`, `"\22`, `"\5c`, `"\7e`, "\"\x7f", "\"é", "\"\xff", "\"\\\n", "\"\\0\n", `"a\61`} {
			refused(t, ahead+word, len(ahead), api.ErrToken)
			refused(t, ahead+word+"\"", len(ahead), api.ErrToken)
		}
		// One digit tells no byte: what is wrong with it, its fellow tells.
		for _, digit := range "0123456789abcdef" {
			refused(t, ahead+`"\`+string(digit), len(ahead)+3, api.ErrEnd)
		}
	}
}

func TestParseOfLongWords(t *testing.T) {
	for _, n := range []int{255, 256, 257, 100000} {
		word := strings.Repeat("x", n)
		src := "merge \"" + word + "\" + \"b\" = 256"
		refused(t, src, 6, api.ErrPart)
		refused(t, src[:6+n], 6+n, api.ErrEnd)
	}
	refused(t, `merge "" + "b" = 256`, 6, api.ErrPart) // no bytes: a word that nothing makes
	refused(t, `merge "b" + "" = 256`, 12, api.ErrPart)
	refused(t, `merge "" "" = 256`, 9, api.ErrToken)
}

// runeTaken holds the recipes of a text that is that rune against it.
func runeTaken(t *testing.T, text string, want rune) {
	t.Helper()
	for a, b := range ahead("rune") {
		d, n := like(t, a+text+b)
		l := slices.Concat(d.Letters, d.Numbers, d.Spaces)
		if n.why != api.OK || len(l) == 0 || l[len(l)-1].Lo != want && l[len(l)-1].Hi != want {
			t.Errorf("%s: %v, %+v", told(a+text+b), l, n)
		}
	}
	for _, c := range "azGZ_" {
		runeRefused(t, text+string(c))
	}
	for _, c := range "09AF" {
		if len(text) == len("U+10FFFF") {
			runeRefused(t, text+string(c))
		}
	}
}

// runeRefused holds that no recipe has that text where a rune may stand.
func runeRefused(t *testing.T, text string) {
	t.Helper()
	for a, b := range ahead("rune") {
		refused(t, a+text+b, len(a), api.ErrToken)
		refused(t, a+text, len(a), api.ErrToken)
	}
}

func TestParseOfRunes(t *testing.T) {
	for _, r := range []rune{0, 1, 9, 0xa, 0x41, 0xff, 0x100, 0xfff, 0x1000, 0xabcd, 0xd7fe, 0xd7ff, 0xe000, 0xfffd, 0xfffe, 0xffff, 0x10000, 0x1f600, 0xfffff, 0x100000, 0x10fffe, 0x10ffff, 0xd8000, 0xdffff} {
		digits := fmt.Sprintf("%04X", r)
		runeTaken(t, "U+"+digits, r)
		for n := range 4 {
			runeRefused(t, "U+"+digits[:n])
		}
		if low := strings.ToLower(digits); low != digits {
			runeRefused(t, "U+"+low)
		}
		runeRefused(t, "u+"+digits)
		runeRefused(t, "U"+digits)
		runeRefused(t, "U-"+digits)
		runeRefused(t, "U +"+digits)
		runeRefused(t, "U+ "+digits)
		runeRefused(t, "\\u"+digits)
		runeRefused(t, "0x"+digits)
		for noughts := 1; noughts < 5; noughts++ {
			if n := len(digits) + noughts; n > 4 {
				runeRefused(t, "U+"+strings.Repeat("0", noughts)+digits)
			}
		}
	}
	for _, digits := range []string{"", "0", "00", "000", "41", "041", "FFF", "D800", "D801", "DABC", "DBFF", "DC00", "DFFF", "00041", "000041", "0000041", "0FFFF", "0D7FF", "0D800", "00D800", "010FFFF", "01F600", "110000", "110001", "1FFFFF", "200000", "FFFFFF", "999999", "1000000", "10FFFFF", "1234567", "FFFFFFFF", "100000041", strings.Repeat("4", 1000), "004G", "G041", "00_1", "+0041", "-0041", "004.1"} {
		runeRefused(t, "U+"+digits)
	}
	runeRefused(t, "U")
	runeRefused(t, "U+")
	refused(t, "letters{U+0041U+0042}", 8, api.ErrToken)
	refused(t, "letters{U+0041é}", 14, api.ErrToken)
	refused(t, "letters{U+0041+U+0042}", 14, api.ErrToken)
	refused(t, "letters { U+0041 .. U+005A U+61 }", 27, api.ErrToken)
	refused(t, "letters { U+00041 }", 10, api.ErrToken)
	parsed(t, "letters{U+0041..U+0042}", api.Data{Letters: []api.Span{span('A', 'B')}})
	refused(t, "letters{U+0041..U+0042U+0043}", 16, api.ErrToken)
}

func TestParseOfSigns(t *testing.T) {
	for _, c := range []struct {
		src string
		at  int
	}{
		{"letters{.", 8}, {"letters{U+0041.", 14}, {"letters{U+0041.}", 14}, {"letters{U+0041.U+0042}", 14}, {"letters{U+0041. .U+0042}", 14},
		{"letters{U+0041...U+0042}", 16}, {"letters{U+0041....U+0042}", 16}, {"letters{U+0041..", 16}, {"letters{U+0041..}", 16}, {"letters{U+0041..U+0042..", 22}, {"letters{U+0041.. ..U+0042}", 17},
		{"letters{..U+0041}", 8}, {"letters{..}", 8}, {"letters{...}", 8}, {"..", 0}, {".", 0}, {"...", 0},
		{"letters{{}", 8}, {"letters{}}", 9}, {"letters}", 7}, {"letters+", 7}, {"letters=", 7}, {"letters U+0041", 8}, {"letters(U+0041)", 7}, {"letters{U+0041,U+0042}", 14}, {"letters{U+0041-U+0042}", 14},
		{"merge+", 5}, {"merge\"a\"=", 8}, {"merge\"a\"++", 9}, {"merge\"a\"-", 8}, {"merge\"a\"+\"b\"==", 13}, {"merge\"a\"+\"b\":=256", 12}, {"merge\"a\"+\"b\"+", 12}, {"merge\"a\"\"b\"=256", 8}, {"merge\"a\"+\"b\"256", 12}, {"merge\"a\"+\"b\"=256+", 16}, {"merge\"a\"+\"b\"=256;", 16},
	} {
		if c.at == len(c.src) {
			refused(t, c.src, c.at, api.ErrEnd)
		} else {
			refused(t, c.src, c.at, api.ErrToken)
		}
	}
}

// Each byte that begins no token, wherever a token may stand.
func TestParseOfBytesThatBeginNoToken(t *testing.T) {
	for _, a := range []string{"", "merge ", "merge \"a\" ", "merge \"a\" + ", "merge \"a\" + \"b\" ", "merge \"a\" + \"b\" = ", "merge \"a\" + \"b\" = 256 ", "letters ", "letters { ", "letters { U+0041 ", "letters { U+0041 .. ", "letters { U+0041 .. U+0042 ", "letters { } "} {
		for c := range 256 {
			one := string([]byte{byte(c)})
			if strings.Contains("\t\n\r \"#+={}0123456789", one) || c >= 'a' && c <= 'z' {
				like(t, a+one)
				continue
			}
			refused(t, a+one, len(a), api.ErrToken)
			refused(t, a+one+"{}", len(a), api.ErrToken)
			refused(t, a+one+"\"", len(a), api.ErrToken)
		}
		for _, s := range []string{"é", "€", "\U0001f600", "\u00a0", "\u2028", "\ufeff", "\ufffd", "\xe2\x82", "\xf0\x9f\x98", "\xc0\x80", "\x00", "\v", "\f", "\x85"} {
			refused(t, a+s, len(a), api.ErrToken)
			refused(t, a+s+" letters{}", len(a), api.ErrToken)
		}
	}
}

// P7.1: where a token may stand

// pieces are tokens of each kind, and some that are none.
var pieces = []string{"merge", "letters", "numbers", "spaces", "words", `"a"`, `"aa"`, `""`, "256", "257", "0", "U+0041", "U+D800", "..", ".", "{", "}", "+", "=", `"\7f"`, "U", `"a`, "00"}

// Each row of up to four pieces, at each place of a recipe.
func TestParseOfEachRowOfPieces(t *testing.T) {
	places := []string{"", "merge ", "merge \"a\"+", "merge \"a\" + \"a\" ", "letters{", "letters { U+0041 .. "}
	var row func(src, gap string, n int)
	row = func(src, gap string, n int) {
		like(t, src)
		if n == 0 {
			return
		}
		for _, p := range pieces {
			// What is refused ahead of its end is refused by the same with more behind it.
			if _, was := plainParse(src + p); was.why == api.ErrToken && was.at < len(src) {
				continue
			}
			row(src+p+gap, gap, n-1)
		}
	}
	for _, gap := range []string{" ", ""} {
		for _, src := range places {
			row(src, gap, 3)
		}
		row("", gap, 4)
	}
}

// A recipe that is cut off behind each token: where it may end it ends, where not it is refused.
func TestParseOfRecipesThatEndTooEarly(t *testing.T) {
	src := "merge \"a\" + \"b\" = 256 letters { U+0041 .. U+005A U+0061 } numbers { } spaces { U+0020 } merge \"ab\" + \"ab\" = 257"
	ends := map[int]bool{0: true, 21: true, 22: true, 57: true, 58: true, 69: true, 70: true, 87: true, 88: true, len(src): true}
	at := 0
	for _, word := range strings.SplitAfter(src, " ") {
		for _, n := range []int{at, at + len(strings.TrimSuffix(word, " "))} {
			for _, blank := range []string{"", " ", "\n", "# remark", "#", "\r\n\t# }\n#"} {
				cut := src[:n] + blank
				if !ends[n] {
					refused(t, cut, len(cut), api.ErrEnd)
				} else if _, no := like(t, cut); no.why == api.ErrToken || no.why == api.ErrEnd {
					t.Errorf("%s: %+v", told(cut), no)
				}
			}
		}
		at += len(word)
	}
}

// Each right recipe, cut off at each of its bytes.
func TestParseOfRecipesCutOff(t *testing.T) {
	for d := range rightOnes {
		s := printed(t, d)
		step := 1 + len(s)/1000 // at samples of long ones
		if len(s) > 1<<16 {
			step = len(s) / 3
		}
		for n := 0; n < len(s); n += step {
			like(t, s[:n])
		}
	}
}
