package recipe_test

import (
	"fmt"
	"math/rand"
	"strings"
	"testing"

	"tessera/api"
	"tessera/recipe"
)

// P7.1: merges

// made answers a recipe of merges: each row is two words and a number.
func made(rows ...[3]string) string {
	var b strings.Builder
	for _, x := range rows {
		fmt.Fprintf(&b, "merge %s + %s = %s\n", plainQuote(x[0]), plainQuote(x[1]), x[2])
	}
	return b.String()
}

// word answers where that WORD (0 or 1) or the NUMBER (2) of the row stands in made.
func word(rows [][3]string, row, which int) int {
	at := len(made(rows[:row]...)) + len("merge ")
	for _, w := range rows[row][:which] {
		at += len(plainQuote(w)) + len(" + ")
	}
	return at
}

// rows is a short form.
func rows(l ...[3]string) [][3]string { return l }

func TestParseOfPartsThatAreNotMade(t *testing.T) {
	for _, c := range []struct {
		l          [][3]string
		row, which int
	}{
		{rows([3]string{"ab", "c", "256"}), 0, 0},
		{rows([3]string{"c", "ab", "256"}), 0, 1},
		{rows([3]string{"ab", "ab", "256"}), 0, 0},
		{rows([3]string{"", "a", "256"}), 0, 0},
		{rows([3]string{"a", "", "256"}), 0, 1},
		{rows([3]string{"é", "a", "256"}), 0, 0}, // two bytes
		{rows([3]string{"a", "b", "256"}, [3]string{"abc", "d", "257"}), 1, 0},
		{rows([3]string{"a", "b", "256"}, [3]string{"d", "abc", "257"}), 1, 1},
		{rows([3]string{"a", "b", "256"}, [3]string{"ab", "ba", "257"}), 1, 1},
		{rows([3]string{"ab", "c", "257"}, [3]string{"a", "b", "256"}), 0, 0},                               // made, but behind
		{rows([3]string{"c", "ab", "256"}, [3]string{"a", "b", "257"}), 0, 1},                               // made, but behind
		{rows([3]string{"ab", "a", "256"}), 0, 0},                                                           // its own
		{rows([3]string{"a", "b", "256"}, [3]string{"ab", "c", "257"}, [3]string{"abcc", "ab", "5"}), 2, 0}, // ahead of the number
		{rows([3]string{"a", "b", "256"}, [3]string{"abc", "abc", "255"}), 1, 0},
		{rows([3]string{"a", "b", "256"}, [3]string{"ab", "abc", "255"}), 1, 1},
	} {
		refused(t, made(c.l...), word(c.l, c.row, c.which), api.ErrPart)
	}
}

func TestParseOfNumbersThatAreNoIds(t *testing.T) {
	l := rows([3]string{"a", "b", "256"}, [3]string{"b", "c", "257"}, [3]string{"ab", "c", "258"})
	for row := range l {
		for _, number := range []string{"0", "1", "97", "254", "255", "259", "260", "511", "512", "1000", "4352", "65792", "2147483647", "2147483648", "2147483904", "4294967295", "4294967296", "4294967552", "9999999999"} {
			was := l[row][2]
			l[row][2] = number
			refused(t, made(l...), word(l, row, 2), api.ErrId)
			l[row][2] = was
		}
	}
	for _, c := range []struct {
		ids   [3]string
		wrong int // the row, or -1
	}{
		{[3]string{"256", "257", "258"}, -1}, {[3]string{"258", "257", "256"}, -1}, {[3]string{"257", "258", "256"}, -1},
		{[3]string{"256", "256", "258"}, 1}, {[3]string{"256", "257", "256"}, 2}, {[3]string{"258", "257", "257"}, 2}, {[3]string{"258", "258", "258"}, 1},
		{[3]string{"256", "255", "259"}, 1}, {[3]string{"259", "255", "256"}, 0}, {[3]string{"256", "259", "256"}, 1},
	} {
		for row := range l {
			l[row][2] = c.ids[row]
		}
		if c.wrong >= 0 {
			refused(t, made(l...), word(l, c.wrong, 2), api.ErrId)
		} else if _, n := like(t, made(l...)); n.why != api.OK {
			t.Errorf("%v: %+v", c.ids, n)
		}
	}
	refused(t, `merge "a" + "b" = 255`, 18, api.ErrId)
	refused(t, `merge "a" + "b" = 257`, 18, api.ErrId)
	// All of the recipe's merges count, those behind too.
	parsed(t, made([3]string{"a", "b", "257"}, [3]string{"b", "a", "256"}), api.Data{Words: []string{"ba", "ab"}, Merges: []api.Merge{join('a', 'b', 257), join('b', 'a', 256)}})
}

// The greatest id of many merges, and one above.
func TestParseOfTheGreatestId(t *testing.T) {
	for _, n := range []int{1, 2, 10, 1000} {
		d := pairs(n)
		s := strings.Split(printed(t, d), "\n")
		for _, c := range []struct {
			id  int
			why api.Errno
		}{{255 + n, api.OK}, {256 + n, api.ErrId}} {
			last := s[n-1][:strings.LastIndex(s[n-1], " ")+1]
			src := strings.Join(append(append([]string{}, s[:n-1]...), last), "\n")
			all := fmt.Sprintf("%s%d", src, c.id)
			if c.why == api.OK {
				d.Spaces = nil
				parsed(t, all, d)
			} else {
				refused(t, all, len(src), c.why)
			}
		}
	}
}

// A word that is made anew goes by the number of the last merge ahead that made it.
func TestParseOfWordsThatAreMadeAnew(t *testing.T) {
	src := made([3]string{"a", "b", "256"}, [3]string{"ab", "ab", "257"}, [3]string{"a", "b", "259"}, [3]string{"ab", "ab", "258"})
	parsed(t, src, api.Data{Words: []string{"ab", "abab", "abab", "ab"}, Merges: []api.Merge{join('a', 'b', 256), join(256, 256, 257), join('a', 'b', 259), join(259, 259, 258)}})
	src = made([3]string{"a", "b", "258"}, [3]string{"b", "c", "257"}, [3]string{"a", "bc", "256"}, [3]string{"ab", "c", "260"}, [3]string{"abc", "abc", "259"})
	parsed(t, src, api.Data{Words: []string{"abc", "bc", "ab", "abcabc", "abc"}, Merges: []api.Merge{join('a', 'b', 258), join('b', 'c', 257), join('a', 257, 256), join(258, 'c', 260), join(260, 260, 259)}})
}

// The same byte written in two ways is the same byte.
func TestParseOfWordsByTheirBytes(t *testing.T) {
	d := api.Data{Words: []string{"\"\\", "\"\\\x00", "\x7f\xff"}, Merges: []api.Merge{join('"', '\\', 256), join(256, 0, 257), join(0x7f, 0xff, 258)}}
	parsed(t, `merge "\"" + "\\" = 256 merge "\"\\" + "\00" = 257 merge "\7f"+"\ff"=258`, d)
	for c := range 256 {
		one := string([]byte{byte(c)})
		parsed(t, made([3]string{one, one, "256"}, [3]string{one + one, one, "257"}), api.Data{Words: []string{one + one, one + one + one}, Merges: []api.Merge{join(c, c, 256), join(256, c, 257)}})
	}
}

// Of two refusals that apply at once: tokens are asked from the left ahead of all merges, and these in their order.
func TestParseAsksInOrder(t *testing.T) {
	part, id := `merge "ab"+"c"=256 `, `merge "a"+"b"=255 `
	for _, c := range []struct {
		src string
		at  int
		why api.Errno
	}{
		{part + id, 6, api.ErrPart},
		{id + part, 14, api.ErrId},
		{`merge "ab"+"c"=1 `, 6, api.ErrPart},
		{`merge "ab"+"cd"=1 `, 6, api.ErrPart},
		{`merge "a"+"cd"=1 `, 10, api.ErrPart},
		{part + "x", 19, api.ErrToken},
		{id + "x", 18, api.ErrToken},
		{part + "letters {", 28, api.ErrEnd},
		{id + "merge ", 24, api.ErrEnd},
		{id + `"a`, 20, api.ErrEnd},
		{id + "letters{U+D800", 26, api.ErrToken},
		{"x letters{U+D800", 0, api.ErrToken},
		{"letters x \"a", 8, api.ErrToken},
		{"letters x merge", 8, api.ErrToken},
		{"x \"a", 0, api.ErrToken},
		{"\"a\"\"a", 0, api.ErrToken},
		{"merge \"\n", 6, api.ErrToken},
		{"merge U", 6, api.ErrToken},
		{"merge \"a\" .", 10, api.ErrToken},
		{"merge \"a\" 00", 10, api.ErrToken},
		{"merge \"a\" \"b", 12, api.ErrEnd}, // a word that ends too early is no token yet: it can't be one that may not stand there
		{"merge \"a\" \"b\"", 10, api.ErrToken},
		{"merge \"a\" merge", 10, api.ErrToken},
	} {
		refused(t, c.src, c.at, c.why)
		refused(t, "# é\n"+c.src, len("# é\n")+c.at, c.why)
		if long := c.src + strings.Repeat(" ", api.MaxFile); len(long) > api.MaxFile {
			refused(t, long, 0, api.ErrLong)
		}
	}
}

// P7.1: places

func TestPlaces(t *testing.T) {
	for _, c := range []struct {
		ahead        string
		line, column int
	}{
		{"", 1, 1}, {" ", 1, 2}, {"\t\t", 1, 3}, {"\n", 2, 1}, {"\r", 1, 2}, {"\r\n", 2, 1}, {"\n\r", 2, 2}, {"\n\n\n  ", 4, 3},
		{"# a\n", 2, 1}, {"#\n#\n ", 3, 2}, {"# é\n", 2, 1}, {"# é\r\n\t", 2, 2}, {"#\xff\xfe\n ", 2, 2}, {"# \u2028\u0085\v\f\n ", 2, 2},
		{"letters{}", 1, 10}, {"letters{}\nnumbers{} ", 2, 11}, {"letters{U+0041 # €\n} ", 2, 3}, {"\n merge \"\\0a\" + \"b\" = 256\n  ", 3, 3},
	} {
		want := recipe.Place{Byte: len(c.ahead), Line: c.line, Column: c.column}
		for _, wrong := range []string{"x", "_", "\xff", "é", "\U0001f600", "{", "00", "\"\n\"", "\"a\" é", ". \n\n", "\xe2\x82\n"} {
			if d, p, why := recipe.Parse(c.ahead + wrong); p != want || why != api.ErrToken || !isEmpty(d) {
				t.Errorf("Parse(%q): %+v, %v, want %+v", c.ahead+wrong, p, why, want)
			}
			refused(t, c.ahead+wrong, len(c.ahead), api.ErrToken)
		}
	}
	// Of merges, which are asked behind all tokens.
	src := "# é\xff\nmerge \"a\" # €\n + \"b\" = 256\n\n\tmerge \"a\" +\r\n  \"bb\" = 257 # é"
	if _, p, why := recipe.Parse(src); p != (recipe.Place{Byte: strings.Index(src, "\"bb"), Line: 6, Column: 3}) || why != api.ErrPart {
		t.Errorf("%+v, %v", p, why)
	}
	src = "letters{} merge \"a\" + \"b\" =\n# \xe2\x82\xac\xe2\x82\n    7"
	if _, p, why := recipe.Parse(src); p != (recipe.Place{Byte: len(src) - 1, Line: 3, Column: 5}) || why != api.ErrId {
		t.Errorf("%+v, %v", p, why)
	}
}

// At the end, items of several bytes and bad bytes may stand ahead in the same line.
func TestPlacesOfTheEnd(t *testing.T) {
	for _, c := range []struct {
		tail         string
		line, column int
	}{
		{"", 1, 6}, {" ", 1, 7}, {"#", 1, 7}, {"# ab", 1, 10}, {"#é", 1, 8}, {"#€é\U0001f600", 1, 10}, {"#\xff\xff", 1, 9}, {"#\xe2\x82", 1, 9}, {"#\xf0\x9f\x98", 1, 10}, {"#\xe2\x82\xac\xe2", 1, 9},
		{"#\xed\xa0\x80", 1, 10}, {"#\xc0\x80", 1, 9}, {"#\ufffd", 1, 8}, {"#é\n", 2, 1}, {"#é\n#é", 2, 3}, {"\n\n#€\xff ", 3, 5}, {"#\r\r", 1, 9}, {"#\r\n", 2, 1}, {"#\u2028", 1, 8}, {"#\x00", 1, 8}, {"#\f4\x90\x80\x80", 1, 12},
	} {
		src := "merge" + c.tail
		want := recipe.Place{Byte: len(src), Line: c.line, Column: c.column}
		if d, p, why := recipe.Parse(src); p != want || why != api.ErrEnd || !isEmpty(d) {
			t.Errorf("Parse(%q): %+v, %v, want %+v", src, p, why, want)
		}
		refused(t, src, len(src), api.ErrEnd)
		refused(t, "# é\n"+src, len("# é\n")+len(src), api.ErrEnd)
	}
	if _, p, why := recipe.Parse("#é\nmerge \"\\\\\\"); p != (recipe.Place{Byte: 14, Line: 2, Column: 11}) || why != api.ErrEnd {
		t.Errorf("%+v, %v", p, why)
	}
}

// P7.5

// gaps are blanks and remarks.
var gaps = []string{" ", "\t", "\n", "\r", "\r\n", "  \t\r\n", "#\n", "# \n", "#merge\n", "# \"é\xff\n\n", "#\r\n#}\n\t", "##\n"}

// cutRecipes are recipes as their tokens.
var cutRecipes = []struct {
	tokens []string
	at     int // the token that is refused, or -1, or as many as there are, if that is at the end
	why    api.Errno
}{
	{nil, -1, api.OK},
	{[]string{"merge", `"a"`, "+", `"b"`, "=", "256", "letters", "{", "U+0041", "..", "U+005A", "U+00E9", "}", "spaces", "{", "}", "merge", `"#"`, "+", `" "`, "=", "257"}, -1, api.OK},
	{[]string{"merge", `"a"`, "+", `"b"`, "=", "255"}, 5, api.ErrId},
	{[]string{"merge", `"a"`, "+", `"bc"`, "=", "256", "letters", "{", "}"}, 3, api.ErrPart},
	{[]string{"letters", "{", "U+0041", "..", "}"}, 4, api.ErrToken},
	{[]string{"letters", "{", "U+0041", ".", "U+0042", "}"}, 3, api.ErrToken},
	{[]string{"letters", "{", "U+0041", "..", "U+0042"}, 5, api.ErrEnd},
	{[]string{"merge", `"a"`, "+", `"b"`, "="}, 5, api.ErrEnd},
}

// laid answers the text of tokens with a gap ahead of each and one behind all, and where each token, and the end, stands.
func laid(tokens, gaps []string) (string, []int) {
	var b strings.Builder
	var places []int
	for i, token := range tokens {
		b.WriteString(gaps[i])
		places = append(places, b.Len())
		b.WriteString(token)
	}
	b.WriteString(gaps[len(tokens)])
	return b.String(), append(places, b.Len())
}

// mayTouch tells whether the token i may stand directly behind the one ahead of it: only what letters or digits end and begin may not.
func mayTouch(tokens []string, i int) bool {
	isWordy := func(c byte) bool { return c >= '0' && c <= '9' || c >= 'A' && c <= 'Z' || c >= 'a' && c <= 'z' }
	if i == 0 || i == len(tokens) {
		return true
	}
	ahead := tokens[i-1]
	return !isWordy(ahead[len(ahead)-1]) || !isWordy(tokens[i][0])
}

// asLaid holds the recipe of cutRecipes with those gaps against what it is with blanks.
func asLaid(t *testing.T, row int, gaps []string) {
	t.Helper()
	c := cutRecipes[row]
	src, places := laid(c.tokens, gaps)
	if c.at >= 0 {
		refused(t, src, places[c.at], c.why)
		return
	}
	want, _ := plainParse(strings.Join(c.tokens, " "))
	parsed(t, src, want)
}

// Each gap in each place, and no gap where there may be none.
func TestBlanksAndRemarks(t *testing.T) {
	for row, c := range cutRecipes {
		l := make([]string, len(c.tokens)+1)
		for i := range l {
			l[i] = " "
		}
		for i := range l {
			for _, gap := range gaps {
				l[i] = gap
				asLaid(t, row, l)
			}
			if mayTouch(c.tokens, i) {
				l[i] = ""
				asLaid(t, row, l)
			}
			l[i] = " "
		}
		for i := range l {
			if mayTouch(c.tokens, i) {
				l[i] = ""
			}
		}
		asLaid(t, row, l)
		// A remark at the very end needs no byte 10 behind it.
		for _, gap := range []string{"#", "# ", "# \"", "#\xff", "#é"} {
			l[len(l)-1] = gap
			asLaid(t, row, l)
		}
	}
}

// Remarks end at a byte 10, or at the end; nothing of them is read.
func TestRemarks(t *testing.T) {
	for _, src := range []string{"#", "# only a remark", "##", "#\n", "#\n#", "# \"", "#\"\n", "# merge x\r", "#\xff\xc3", "# a # b\n# c", "\t#\r\n \n"} {
		parsed(t, src, api.Data{})
		parsed(t, src+"\nspaces{U+0020}"+src, of(nil))
		parsed(t, "spaces{U+0020}"+src, of(nil))
	}
	for c := range 256 {
		one := string([]byte{byte(c)})
		if c == '\n' {
			refused(t, "#"+one+"x", 2, api.ErrToken)
			continue
		}
		parsed(t, "#"+one, api.Data{})
		parsed(t, "#"+one+"x", api.Data{})
		parsed(t, "#"+one+"\nspaces{U+0020}", of(nil))
	}
	refused(t, "#\rx\n\rx", 5, api.ErrToken)
	refused(t, "spaces{U+0020#}", 15, api.ErrEnd)
	refused(t, "spaces{U+00#\n20}", 7, api.ErrToken)
	refused(t, "mer#\nge", 0, api.ErrToken)
	refused(t, "merge \"a#\n\"", 6, api.ErrToken)
	refused(t, "letters{U+0041.#\n.}", 14, api.ErrToken)
}

// Several gaps in all places.
func TestBlanksAndRemarksAtManyPlaces(t *testing.T) {
	r := rand.New(rand.NewSource(5))
	for range 4000 {
		row := r.Intn(len(cutRecipes))
		l := make([]string, len(cutRecipes[row].tokens)+1)
		for i := range l {
			for range 1 + r.Intn(3) {
				l[i] += gaps[r.Intn(len(gaps))]
			}
		}
		asLaid(t, row, l)
	}
}

// spoilt answers s with something changed.
func spoilt(r *rand.Rand, s string) string {
	for range 1 + r.Intn(2) {
		at := r.Intn(len(s) + 1)
		to := min(len(s), at+r.Intn(8))
		switch r.Intn(5) {
		case 0:
			s = s[:at] + string([]byte{byte(r.Intn(256))}) + s[at:]
		case 1:
			s = s[:at] + string("\"\\{}+=.#_09azAFU \n"[r.Intn(18)]) + s[min(len(s), at+1):]
		case 2:
			s = s[:at] + pieces[r.Intn(len(pieces))] + s[at:]
		case 3:
			s = s[:at] + s[to:]
		case 4:
			s = s[:at]
		}
	}
	return s
}

// Recipes, most of them spoilt, hold what the chapter says.
func TestParseOfManyTexts(t *testing.T) {
	r := rand.New(rand.NewSource(6))
	seen := map[api.Errno]int{}
	for range 30000 {
		d := known()
		if r.Intn(2) == 0 {
			d = someRight(r, r.Intn(7))
		}
		if r.Intn(3) == 0 && len(d.Merges) > 1 {
			i, j := r.Intn(len(d.Merges)), r.Intn(len(d.Merges))
			d.Merges[i], d.Merges[j] = d.Merges[j], d.Merges[i]
		}
		s, why := plainPrint(d)
		if why != api.OK {
			s = turned(r, d)
		}
		if r.Intn(8) > 0 {
			s = spoilt(r, s)
		}
		_, n := like(t, s)
		seen[n.why]++
	}
	for _, why := range []api.Errno{api.OK, api.ErrToken, api.ErrEnd, api.ErrPart, api.ErrId} {
		if seen[why] < 400 {
			t.Errorf("only %d of %v were tried", seen[why], why)
		}
	}
}

// turned answers a recipe of d's merges in whatever order, with numbers that may not be.
func turned(r *rand.Rand, d api.Data) string {
	text := func(id int) string {
		if id < 256 {
			return string([]byte{byte(id)})
		}
		return d.Words[id-256]
	}
	var l [][3]string
	for _, x := range d.Merges {
		l = append(l, [3]string{text(x.Left), text(x.Right), fmt.Sprint(x.Id - r.Intn(20)/19)})
	}
	return made(l...)
}
