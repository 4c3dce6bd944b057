package cut_test

import (
	"math/rand"
	"slices"
	"strconv"
	"strings"
	"testing"

	"tessera/api"
	"tessera/cut"
)

// short answers s, quoted, or what it begins with.
func short(s string) string {
	if len(s) > 60 {
		return strconv.Quote(s[:60]) + " .. of " + strconv.Itoa(len(s)) + " bytes"
	}
	return strconv.Quote(s)
}

// head answers the first tokens of l.
func head(l []cut.Token) []cut.Token { return l[:min(len(l), 20)] }

// word, figure, sign, blank and ending are short forms.
func word(s string) piece   { return piece{s, cut.Word} }
func figure(s string) piece { return piece{s, cut.Figure} }
func sign(s string) piece   { return piece{s, cut.Sign} }
func blank(s string) piece  { return piece{s, cut.Blank} }
func ending(s string) piece { return piece{s, cut.Short} }

// The runs of the chapter.
func TestRuns(t *testing.T) {
	d := known()
	checkIs(t, d, "it's 12  o'clock", word("it"), ending("'s"), figure(" 12"), blank(" "), word(" o"), sign("'"), word("clock"))
	checkIs(t, d, "'sun", ending("'s"), word("un"))
	checkIs(t, d, "'re'x", ending("'re"), sign("'"), word("x"))
	checkIs(t, d, "!'s", sign("!'"), word("s"))
	checkIs(t, d, " 's", sign(" '"), word("s"))
	checkIs(t, d, "\n\na", blank("\n"), blank("\n"), word("a"))
	checkIs(t, d, "\na", blank("\n"), word("a"))
	checkIs(t, d, "   ", blank("   "))
	checkIs(t, d, "a  ", word("a"), blank("  "))
	checkIs(t, d, "\n a", blank("\n"), word(" a"))
	checkIs(t, d, "\u00e9\xff!", word("\u00e9"), sign("\xff!"))
}

// The examples of the chapter.
func TestExamples(t *testing.T) {
	for d := range datas {
		checkIs(t, d, "")
	}
	checkIs(t, known(), "'", sign("'"))
	checkIs(t, known(), "'l", sign("'"), word("l"))
}

// The sorts are numbered from 1 on.
func TestSorts(t *testing.T) {
	if cut.Short != 1 || cut.Word != 2 || cut.Figure != 3 || cut.Sign != 4 || cut.Blank != 5 {
		t.Error("the sorts have other numbers")
	}
}

// A Token embeds its Piece.
func TestATokenHasItsPiece(t *testing.T) {
	l, _ := cut.Tokens(made(t, known()), "ab 1")
	if len(l) != 2 || l[1].From != 2 || l[1].To != 4 || l[1].Piece != (api.Piece{From: 2, To: 4}) || l[1].Sort != cut.Figure {
		t.Errorf("%v", l)
	}
}

// P12.1

// Of each model, every short text.
func TestEveryShortText(t *testing.T) {
	for d := range datas {
		m := made(t, d)
		for n := range 4 {
			for s := range textsOf(parts, n) {
				check(t, d, m, s)
			}
		}
	}
	for _, d := range []api.Data{known(), wide()} {
		m := made(t, d)
		for s := range textsOf(parts, 4) {
			check(t, d, m, s)
		}
	}
}

// Of fewer pieces, longer texts.
func TestEveryLongerText(t *testing.T) {
	for _, l := range [][]string{{"'", "s", "r", "e", " ", "1"}, {"'", "l", " ", "\n", "!"}, {" ", "\n", "a", "\xff"}, {" ", "\u2003", "\u00e9", "'"}} {
		for _, d := range []api.Data{known(), wide(), mixed()} {
			m := made(t, d)
			for n := 4; n < 7; n++ {
				for s := range textsOf(l, n) {
					check(t, d, m, s)
				}
			}
		}
	}
}

// Every two bytes, alone and about others.
func TestEveryTwoBytes(t *testing.T) {
	for d := range datas {
		m := made(t, d)
		for i := range 256 {
			for j := range 256 {
				s := string([]byte{byte(i), byte(j)})
				check(t, d, m, s)
				if i < 64 || j%16 == 0 {
					check(t, d, m, "' "+s+"s a")
				}
			}
		}
	}
}

func TestManyTexts(t *testing.T) {
	r := rand.New(rand.NewSource(1))
	for d := range datas {
		m := made(t, d)
		for range 1000 {
			check(t, d, m, someText(r, r.Intn(40)))
		}
	}
}

// `'` is a Short with its endings alone, whole and where a pre-token begins, whatever stands behind.
func TestShortEndings(t *testing.T) {
	d := known()
	for _, e := range []string{"'s", "'t", "'m", "'d", "'re", "'ve", "'ll"} {
		checkIs(t, d, e, ending(e))
		checkIs(t, d, e+e, ending(e), ending(e))
		checkIs(t, d, "a"+e, word("a"), ending(e))
		checkIs(t, d, "1"+e, figure("1"), ending(e))
		checkIs(t, d, "!"+e, sign("!'"), word(e[1:]))
		checkIs(t, d, "\xff"+e, sign("\xff'"), word(e[1:]))
		checkIs(t, d, "'"+e, sign("''"), word(e[1:]))
		checkIs(t, d, " "+e, sign(" '"), word(e[1:]))
		checkIs(t, d, "\n"+e, blank("\n"), ending(e))
		checkIs(t, d, "\n "+e, blank("\n"), sign(" '"), word(e[1:]))
		checkIs(t, d, e+"a", ending(e), word("a"))
		checkIs(t, d, e+"\u00e9", ending(e), word("\u00e9"))
		checkIs(t, d, e+"1", ending(e), figure("1"))
		checkIs(t, d, e+"!", ending(e), sign("!"))
		checkIs(t, d, e+" ", ending(e), blank(" "))
		checkIs(t, d, e+" a", ending(e), word(" a"))
		checkIs(t, d, e+"\xff", ending(e), sign("\xff"))
		checkIs(t, d, "'"+strings.ToUpper(e[1:]), sign("'"+strings.ToUpper(e[1:])))
		checkIs(t, d, "\u2019"+e[1:], sign("\u2019"), word(e[1:]))
	}
}

func TestShortEndingsCutShort(t *testing.T) {
	d := known()
	for _, e := range []string{"r", "v", "l"} {
		checkIs(t, d, "'"+e, sign("'"), word(e))
		checkIs(t, d, "'"+e+"a", sign("'"), word(e+"a"))
		checkIs(t, d, "'"+e+"s", sign("'"), word(e+"s"))
		checkIs(t, d, "'"+e+"1", sign("'"), word(e), figure("1"))
		checkIs(t, d, "'"+e+" e", sign("'"), word(e), word(" e"))
		checkIs(t, d, "'"+e+"'", sign("'"), word(e), sign("'"))
		checkIs(t, d, "'"+e+"\xff", sign("'"), word(e), sign("\xff"))
		checkIs(t, d, "'"+e+"\u00e9", sign("'"), word(e+"\u00e9"))
	}
	checkIs(t, d, "'rl", sign("'"), word("rl"))
	checkIs(t, d, "'le", sign("'"), word("le"))
	checkIs(t, d, "'er", sign("'"), word("er"))
	checkIs(t, d, "' s", sign("'"), word(" s"))
	checkIs(t, d, "'!s", sign("'!"), word("s"))
}

// The bytes behind `'` tell, not their kinds.
func TestShortEndingsOfAnyKind(t *testing.T) {
	for _, e := range []string{"'s", "'t", "'m", "'d", "'re", "'ve", "'ll"} {
		for d := range datas {
			checkIs(t, d, e, ending(e))
		}
	}
	checkIs(t, mixed(), "'ssa", ending("'s"), blank("s"), word("a"))
	checkIs(t, mixed(), "'lla", ending("'ll"), word("a"))
	checkIs(t, mixed(), "'lma", sign("'"), blank("l"), blank("m"), word("a"))
	checkIs(t, mixed(), "'v1", sign("'"), blank("v"), figure("1"))
	checkIs(t, least(), "!'s", sign("!'s"))
	checkIs(t, least(), "'rs", sign("'rs"))
}

// U+0020 belongs to the item behind it that is no space, and is no space of a run then.
func TestBlankAheadOfAnItem(t *testing.T) {
	d := known()
	for _, x := range []piece{word("a"), word("ab\u00e9"), figure("1"), figure("123"), sign("!"), sign("'!"), sign("\xff"), sign("\xe2\x82\ufffd"), sign("\u20ac")} {
		for _, ahead := range []piece{word("z"), figure("0"), sign("-")} {
			checkIs(t, d, ahead.text+" "+x.text, ahead, piece{" " + x.text, x.sort})
		}
		checkIs(t, d, " "+x.text, piece{" " + x.text, x.sort})
		checkIs(t, d, " "+x.text+" ", piece{" " + x.text, x.sort}, blank(" "))
		checkIs(t, d, " "+x.text+" "+x.text, piece{" " + x.text, x.sort}, piece{" " + x.text, x.sort})
		checkIs(t, d, " "+x.text+"\n"+x.text, piece{" " + x.text, x.sort}, blank("\n"), x)
	}
	checkIs(t, d, " ", blank(" "))
	checkIs(t, d, "a ", word("a"), blank(" "))
}

// Of other spaces none belongs to the item behind it.
func TestOtherSpaces(t *testing.T) {
	d := wide()
	for _, space := range []string{"\t", "\n", "\u00a0", "\u2003", "\U0001f603"} {
		for _, x := range []piece{word("a"), word("\U0001f600"), figure("1"), sign("!"), sign("\xff"), ending("'s")} {
			checkIs(t, d, space+x.text, blank(space), x)
			checkIs(t, d, space+space+x.text, blank(space), blank(space), x)
			checkIs(t, d, space+space+space+x.text, blank(space+space), blank(space), x)
			checkIs(t, d, " "+space+x.text, blank(" "), blank(space), x)
			checkIs(t, d, space+" "+space+x.text, blank(space+" "), blank(space), x)
			if x.sort != cut.Short {
				checkIs(t, d, space+" "+x.text, blank(space), piece{" " + x.text, x.sort})
				checkIs(t, d, space+"  "+x.text, blank(space+" "), piece{" " + x.text, x.sort})
			}
			checkIs(t, d, x.text+space, x, blank(space))
			checkIs(t, d, x.text+space+" ", x, blank(space+" "))
		}
		checkIs(t, d, space, blank(space))
	}
}

// As many spaces as one likes: all of them at the end, else all but the last one.
func TestManySpaces(t *testing.T) {
	d := known()
	for n := 2; n < 70; n++ {
		all := strings.Repeat(" ", n)
		checkIs(t, d, all, blank(all))
		checkIs(t, d, "a"+all, word("a"), blank(all))
		checkIs(t, d, all+"a", blank(all[1:]), word(" a"))
		checkIs(t, d, "1"+all+"\xff", figure("1"), blank(all[1:]), sign(" \xff"))
		checkIs(t, d, all+"'s", blank(all[1:]), sign(" '"), word("s"))
		lines := strings.Repeat("\n", n)
		checkIs(t, d, lines, blank(lines))
		checkIs(t, d, lines+"a", blank(lines[1:]), blank("\n"), word("a"))
		checkIs(t, d, lines+all+"a", blank(lines+all[1:]), word(" a"))
		checkIs(t, d, all+lines+"a", blank(all+lines[1:]), blank("\n"), word("a"))
	}
}

// A bad byte is of the others, whatever class U+FFFD is of.
func TestBadBytes(t *testing.T) {
	mark := "\ufffd"
	checkIs(t, known(), "a\xff\xfe!a", word("a"), sign("\xff\xfe!"), word("a"))
	checkIs(t, known(), "a"+mark+"\xff", word("a"), sign(mark+"\xff"))
	checkIs(t, withMark(0), "a"+mark+"\xff", word("a"+mark), sign("\xff"))
	checkIs(t, withMark(0), " "+mark+"a \xff", word(" "+mark+"a"), sign(" \xff"))
	checkIs(t, withMark(1), "1"+mark+"\xff!", figure("1"+mark), sign("\xff!"))
	checkIs(t, withMark(2), "a"+mark+"\xffa", word("a"), blank(mark), sign("\xff"), word("a"))
	checkIs(t, withMark(2), mark+mark+"\xff", blank(mark), blank(mark), sign("\xff"))
	checkIs(t, withMark(2), mark+"\xef\xbf", blank(mark), sign("\xef\xbf"))
	checkIs(t, withMark(2), " \xff  "+mark, sign(" \xff"), blank("  "+mark))
	checkIs(t, known(), "\xc3\xc3\xa9\xa9", sign("\xc3"), word("\u00e9"), sign("\xa9"))
	checkIs(t, wide(), "\xe2\x80\u2003\xe2\x80", sign("\xe2\x80"), blank("\u2003"), sign("\xe2\x80"))
	checkIs(t, known(), "'\xff", sign("'\xff"))
	checkIs(t, known(), "'\xc3\xa9", sign("'"), word("\u00e9"))
}

func TestRefusals(t *testing.T) {
	m := made(t, known())
	most := strings.Repeat("a", api.MaxText)
	for i, s := range []string{"", "a", "\xff", most, most + "a", most + most} {
		if l, why := cut.Tokens(nil, s); len(l) != 0 || why != api.ErrArg {
			t.Errorf("%d, no model: %v, %v", i, head(l), why)
		}
	}
	for i, s := range []string{most + "a", most + " ", most + "\xff", most[1:] + "\u00e9", most + most, strings.Repeat(" ", api.MaxText+1)} {
		if l, why := cut.Tokens(m, s); len(l) != 0 || why != api.ErrLong {
			t.Errorf("%d, a long text: %v, %v", i, head(l), why)
		}
	}
	for i, s := range []string{most, most[1:], most[2:] + "\u00e9"} {
		if l, why := cut.Tokens(m, s); !slices.Equal(l, []cut.Token{token(0, len(s), cut.Word)}) || why != api.OK {
			t.Errorf("%d, a text that may be: %v, %v", i, head(l), why)
		}
	}
}

// Texts as long as they may be, of few pre-tokens and of many.
func TestLongTexts(t *testing.T) {
	d := wide()
	m := made(t, d)
	for _, p := range []string{"a", "'", " ", "\n", "\u2003", "\xff", "'s", "a1", "\n\na", "it's 12  o'clock\n", " \ufffd\u2003"} {
		s := strings.Repeat(p, api.MaxText/len(p))
		check(t, d, m, s[1:]+"a")
	}
	check(t, d, m, strings.Repeat(" ", api.MaxText))
	check(t, d, m, strings.Repeat(" \n", api.MaxText/2-1)+" a")
	check(t, d, m, "'"+strings.Repeat(" ", api.MaxText-1))
}

// P12.2

// several is a text of which the chapter says many pre-tokens.
const several = "it's 12  o'clock\n\n\u00e9\xff! 'll\t"

func TestAllMayBeLeftAndRangedOverAgain(t *testing.T) {
	want := plain(known(), several)
	seq := cut.All(made(t, known()), several)
	for n := range want {
		var got []cut.Token
		for x := range seq {
			if got = append(got, x); len(got) == n+1 {
				break
			}
		}
		if !slices.Equal(got, want[:n+1]) {
			t.Errorf("left behind %d: %v, want %v", n+1, got, want[:n+1])
		}
	}
	for range 3 {
		if got := slices.Collect(seq); !slices.Equal(got, want) {
			t.Errorf("ranged over again: %v, want %v", got, want)
		}
	}
}

// What is left early hands out no more.
func TestAllEndsWhereItIsLeft(t *testing.T) {
	seq := cut.All(made(t, known()), several)
	for n := 1; n <= len(plain(known(), several)); n++ {
		calls := 0
		seq(func(cut.Token) bool {
			calls++
			return calls < n
		})
		if calls != n {
			t.Errorf("left at the pre-token %d: %d were handed out", n, calls)
		}
	}
}

func TestAllWithinItself(t *testing.T) {
	want := plain(known(), several)
	seq := cut.All(made(t, known()), several)
	var outer []cut.Token
	for x := range seq {
		outer = append(outer, x)
		if inner := slices.Collect(seq); !slices.Equal(inner, want) {
			t.Fatalf("All within %v: %v, want %v", x, inner, want)
		}
	}
	if !slices.Equal(outer, want) {
		t.Errorf("All about others: %v, want %v", outer, want)
	}
}

func TestAllOfWhatTokensRefuses(t *testing.T) {
	m := made(t, known())
	long := strings.Repeat("a", api.MaxText+1)
	for i, seq := range []func(func(cut.Token) bool){
		cut.All(nil, ""), cut.All(nil, several), cut.All(nil, long), cut.All(m, long), cut.All(m, long+long), cut.All(m, ""),
	} {
		for range 2 {
			for x := range seq {
				t.Fatalf("%d: a pre-token: %v", i, x)
			}
		}
	}
	if l := slices.Collect(cut.All(m, long[1:])); !slices.Equal(l, []cut.Token{token(0, api.MaxText, cut.Word)}) {
		t.Errorf("of a text that may be: %v", head(l))
	}
}

// P12.3, P12.4

func TestPiecesAreTheText(t *testing.T) {
	for d := range datas {
		m := made(t, d)
		for n := range 4 {
			for s := range textsOf(parts, n) {
				checkAnew(t, m, s)
			}
		}
	}
}

func TestCutAnewOfManyTexts(t *testing.T) {
	r := rand.New(rand.NewSource(2))
	for d := range datas {
		m := made(t, d)
		for range 300 {
			checkAnew(t, m, someText(r, r.Intn(30)))
		}
		b := make([]byte, 40)
		for range 300 {
			r.Read(b)
			checkAnew(t, m, string(b))
			check(t, d, m, string(b))
		}
	}
}
