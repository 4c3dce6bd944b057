package bpe_test

import (
	"math"
	"math/rand"
	"slices"
	"strings"
	"testing"

	"tessera/api"
	"tessera/bpe"
)

// The runs of the chapter.
func TestRuns(t *testing.T) {
	m := made(t, runs())
	for s, want := range map[string][]int{"abc": {'a', 258}, "abab": {256, 256}, "aab": {'a', 256}, "": {}} {
		if got, why := bpe.Merge(m, s); !slices.Equal(got, want) || why != api.OK {
			t.Errorf("Merge of %q: %v, %v, want %v", s, got, why, want)
		}
	}
	if l := slices.Collect(bpe.Steps(m, "abcab")); !slices.Equal(l, []bpe.Step{{Rank: 0, At: 1}, {Rank: 1, At: 2}}) {
		t.Errorf("Steps of abcab: %v", l)
	}
	aa := made(t, doubles('a', 1))
	for s, want := range map[string][]int{"aaa": {256, 'a'}, "aaaa": {256, 256}} {
		if got, why := bpe.Merge(aa, s); !slices.Equal(got, want) || why != api.OK {
			t.Errorf("Merge of %q: %v, %v, want %v", s, got, why, want)
		}
	}
	if got, why := bpe.Joined(m, []int{999}); len(got) != 0 || why != api.ErrId {
		t.Errorf("Joined of 999: %v, %v", got, why)
	}
}

// Example 1.
func TestBareMergesNothing(t *testing.T) {
	d := of(nil)
	m := made(t, d)
	for _, s := range []string{"", "a", "ab", "aaaa", "\x00\xff\x80é", allBytes()} {
		check(t, d, m, s, bytesOf(s), nil)
	}
}

// Example 2.
func TestJoinedOfIdsThatHaveNoMerge(t *testing.T) {
	d := runs()
	m := made(t, d)
	for _, ids := range [][]int{{'a'}, {256}, {257}, {'a', 'c'}, {'b', 'a'}, {257, 'c'}, {258, 'c'}, {'a', 258}, {256, 256}, {257, 258, 256, 'a', 258}, {0, 255, 0}} {
		checkJoined(t, d, m, ids, ids)
	}
}

// Example 3.
func TestJoinedOfAWordAndAByte(t *testing.T) {
	d := runs()
	checkJoined(t, d, made(t, d), []int{256, 'c'}, []int{257})
}

// P10.1

// Of each small model, every short list of its ids.
func TestJoinedOfEveryShortList(t *testing.T) {
	for merges, most := range []int{5, 5, 5, 4} {
		for d := range modelsOf("ab", merges) {
			m := made(t, d)
			ids := partsOf(d, "ab")
			for n := range most + 1 {
				for l := range listsOf(n, len(ids)) {
					for i, at := range l {
						l[i] = ids[at]
					}
					want, _ := plain(d, l)
					checkJoined(t, d, m, l, want)
				}
			}
		}
	}
}

// Lists of bytes and words by greater models, whose ids stand in any order of their ranks.
func TestJoinedOfManyLists(t *testing.T) {
	r := rand.New(rand.NewSource(2))
	for range 3000 {
		d, _ := moved(r, someModel(r, "ab\x00\xff", 1+r.Intn(40)))
		m := made(t, d)
		ids := partsOf(d, "ab\x00\xff")
		l := make([]int, r.Intn(30))
		for i := range l {
			l[i] = ids[r.Intn(len(ids))]
		}
		want, _ := plain(d, l)
		checkJoined(t, d, m, l, want)
		if again, _ := passes(d, l); !slices.Equal(again, want) {
			t.Fatalf("the tests' passes of %v: %v, want %v", l, again, want)
		}
	}
}

// The lowest rank goes first, wherever it stands and whatever its Id and its word's length are.
func TestLowestRankFirst(t *testing.T) {
	for _, c := range []struct {
		d    api.Data
		want []int
	}{
		{of([]string{"ab", "bc", "cd"}, join('a', 'b', 256), join('b', 'c', 257), join('c', 'd', 258)), []int{256, 258}},
		{of([]string{"ab", "bc", "cd"}, join('b', 'c', 257), join('a', 'b', 256), join('c', 'd', 258)), []int{'a', 257, 'd'}},
		{of([]string{"ab", "bc", "cd"}, join('c', 'd', 258), join('b', 'c', 257), join('a', 'b', 256)), []int{256, 258}},
		{of([]string{"bc", "abc", "bcd"}, join('b', 'c', 256), join('a', 256, 257), join(256, 'd', 258)), []int{257, 'd'}},
		{of([]string{"bc", "abc", "bcd"}, join('b', 'c', 256), join(256, 'd', 258), join('a', 256, 257)), []int{'a', 258}},
		{of([]string{"abcd", "cd", "ab"}, join('c', 'd', 257), join('a', 'b', 258), join(258, 257, 256)), []int{256}},
	} {
		checkJoined(t, c.d, made(t, c.d), []int{'a', 'b', 'c', 'd'}, c.want)
	}
}

// Of one rank the leftmost goes first.
func TestLeftmostOfOneRank(t *testing.T) {
	for n := range 40 {
		d := doubles('a', 1)
		want := append(slices.Repeat([]int{256}, n/2), slices.Repeat([]int{'a'}, n%2)...)
		check(t, d, made(t, d), strings.Repeat("a", n), want, stepsOfOneRank(n/2))
	}
}

// stepsOfOneRank answers n steps of rank 0, one behind the other from the left.
func stepsOfOneRank(n int) []bpe.Step {
	var l []bpe.Step
	for i := range n {
		l = append(l, bpe.Step{Rank: 0, At: i})
	}
	return l
}

func TestJoinedRefuses(t *testing.T) {
	m := made(t, runs())
	long, longer := make([]int, api.MaxText), make([]int, api.MaxText+1)
	wrong := append(slices.Clone(longer[1:]), 259)
	for i, c := range []struct {
		none bool // no model
		ids  []int
		want api.Errno
	}{
		{true, nil, api.ErrArg}, {true, []int{'a'}, api.ErrArg}, {true, []int{-1}, api.ErrArg}, {true, longer, api.ErrArg}, {true, wrong, api.ErrArg},
		{false, longer, api.ErrLong}, {false, wrong, api.ErrLong}, {false, append(wrong, -1), api.ErrLong},
		{false, wrong[1:], api.ErrId},
		{false, long, api.OK},
	} {
		by := m
		if c.none {
			by = nil
		}
		got, why := bpe.Joined(by, c.ids)
		if why != c.want || why != api.OK && len(got) != 0 || why == api.OK && !slices.Equal(got, c.ids) {
			t.Errorf("%d: %d ids, %v, want %v", i, len(got), why, c.want)
		}
	}
}

func TestJoinedRefusesWhatIsNoId(t *testing.T) {
	for _, d := range []api.Data{of(nil), doubles('a', 1), runs(), rising(api.MaxWord - 1)} {
		m := made(t, d)
		size := m.Size()
		for _, id := range []int{math.MinInt, -1 << 32, -256, -2, -1, size, size + 1, 2 * size, 1 << 20, 1 << 32, 1<<32 + 97, math.MaxInt} {
			for n := range 4 {
				for at := range n + 1 {
					ids := slices.Insert(slices.Repeat([]int{'a'}, n), at, id)
					if got, why := bpe.Joined(m, ids); len(got) != 0 || why != api.ErrId {
						t.Errorf("Joined of %v, %d ids: %v, %v", ids, size, got, why)
					}
				}
			}
		}
		for _, id := range []int{0, 255, size - 1} {
			checkJoined(t, d, m, []int{id}, []int{id})
		}
	}
}

// P10.2

// Of each small model, every short text.
func TestMergeOfEveryShortText(t *testing.T) {
	for merges, most := range []int{4, 9, 8, 7} {
		for d := range modelsOf("ab", merges) {
			m := made(t, d)
			for n := range most + 1 {
				for s := range textsOf("ab", n) {
					checkPlain(t, d, m, s)
				}
			}
		}
	}
	for d := range modelsOf("abc", 2) {
		m := made(t, d)
		for n := range 7 {
			for s := range textsOf("abc", n) {
				checkPlain(t, d, m, s)
			}
		}
	}
}

// Longer texts by greater models, whose ids stand in any order of their ranks.
func TestMergeOfManyTexts(t *testing.T) {
	r := rand.New(rand.NewSource(3))
	for range 1500 {
		letters := []string{"ab", "abc", "a\x00\xff", "aé"}[r.Intn(4)]
		d, _ := moved(r, someModel(r, letters, 1+r.Intn(60)))
		m := made(t, d)
		for range 4 {
			checkPlain(t, d, m, someText(r, letters, r.Intn(60)))
		}
	}
}

// The bytes are the ids 0 to 255, whatever they are of a rune.
func TestMergeOfEachByte(t *testing.T) {
	d := of([]string{"\x00\x00", "\xff\xfe", "\xc3\xa9", "\xa9\xc3"},
		join(0xa9, 0xc3, 259), join(0, 0, 256), join(0xff, 0xfe, 257), join(0xc3, 0xa9, 258))
	m := made(t, d)
	checkPlain(t, d, m, allBytes())
	for s, want := range map[string][]int{
		"\x00\x00\x00": {256, 0}, "\xff\xfe\xff": {257, 255}, "é": {258}, "éé": {0xc3, 259, 0xa9},
	} {
		if got, why := bpe.Merge(m, s); !slices.Equal(got, want) || why != api.OK {
			t.Errorf("Merge of %q: %v, %v, want %v", s, got, why, want)
		}
	}
}

// allBytes is each byte once, rising, then falling.
func allBytes() string {
	var b []byte
	for i := range 256 {
		b = append(b, byte(i))
	}
	for i := range 256 {
		b = append(b, byte(255-i))
	}
	return string(b)
}

func TestMergeRefuses(t *testing.T) {
	longest := strings.Repeat("\x00", api.MaxText)
	for _, s := range []string{"", "a", "\xff", longest, longest + "a"} {
		if got, why := bpe.Merge(nil, s); len(got) != 0 || why != api.ErrArg {
			t.Errorf("Merge of %d bytes by no model: %d ids, %v", len(s), len(got), why)
		}
	}
	m := made(t, runs())
	for _, more := range []string{"a", "ab", "\xff", longest} {
		if got, why := bpe.Merge(m, longest+more); len(got) != 0 || why != api.ErrLong {
			t.Errorf("Merge of %d bytes: %d ids, %v", len(longest+more), len(got), why)
		}
	}
	if got, why := bpe.Merge(m, longest); why != api.OK || !slices.Equal(got, make([]int, api.MaxText)) {
		t.Errorf("Merge of MaxText bytes: %d ids, %v", len(got), why)
	}
}

// P10.3

func TestStepsOverAgain(t *testing.T) {
	l := bpe.Steps(made(t, runs()), "abcabab")
	want := []bpe.Step{{Rank: 0, At: 1}, {Rank: 1, At: 2}, {Rank: 1, At: 3}}
	for range 4 {
		if got := slices.Collect(l); !slices.Equal(got, want) {
			t.Fatalf("Steps: %v, want %v", got, want)
		}
	}
}

func TestStepsLeftEarly(t *testing.T) {
	r := rand.New(rand.NewSource(5))
	for range 200 {
		d := someModel(r, "ab", 12)
		s := someText(r, "ab", 20)
		_, want := plain(d, bytesOf(s))
		l := bpe.Steps(made(t, d), s)
		for most := 1; most <= len(want); most++ {
			var got []bpe.Step
			for x := range l {
				got = append(got, x)
				if len(got) == most {
					break
				}
			}
			if !slices.Equal(got, want[:most]) {
				t.Fatalf("the first %d steps of %q: %v, want %v", most, s, got, want[:most])
			}
		}
	}
}

func TestStepsOfWhatMergeRefuses(t *testing.T) {
	long := strings.Repeat("a", api.MaxText+1)
	m := made(t, doubles('a', 3))
	for _, l := range []func(func(bpe.Step) bool){
		bpe.Steps(nil, ""), bpe.Steps(nil, "aaaa"), bpe.Steps(nil, long), bpe.Steps(m, long), bpe.Steps(m, long+long),
		bpe.Steps(m, ""), bpe.Steps(m, "a"), bpe.Steps(made(t, of(nil)), "aaaa"),
	} {
		for range 2 {
			for x := range l {
				t.Errorf("a step: %v", x)
			}
		}
	}
}

// P10.1 to P10.5 of texts as long as they may be.

func TestLongTextsOfOneByte(t *testing.T) {
	checkLong(t, doubles('a', 8), strings.Repeat("a", api.MaxText))
	checkLong(t, doubles('a', 8), strings.Repeat("a", 1<<17-129))
	checkLong(t, rising(api.MaxWord-1), strings.Repeat("a", 1<<17+1))
}

// What is joined stands far from the left, a step a rank: where each stands is told without walking there.
func TestLongTextWithFarSteps(t *testing.T) {
	d := of(nil)
	for i := range api.MaxMerges {
		x := []byte{byte(i/64) + 64, byte(i%64) + 128}
		d.Words = append(d.Words, string(x))
		d.Merges = append(d.Merges, join(int(x[0]), int(x[1]), 256+i))
	}
	s := strings.Repeat("\x00", api.MaxText-2*len(d.Words)) + strings.Join(d.Words, "")
	want, steps := bytesOf(s[:api.MaxText-2*len(d.Words)]), []bpe.Step{}
	for i := range d.Words {
		steps = append(steps, bpe.Step{Rank: i, At: len(want)})
		want = append(want, 256+i)
	}
	check(t, d, made(t, d), s, want, steps)
}

func TestLongTextsOfLetters(t *testing.T) {
	r := rand.New(rand.NewSource(6))
	for _, letters := range []string{"ab", "abcdefgh"} {
		d, _ := moved(r, someModel(r, letters, 150))
		checkLong(t, d, someText(r, letters, api.MaxText/2))
		for range 30 {
			checkLong(t, d, someText(r, letters, r.Intn(3000)))
		}
	}
}

// P10.6

func TestPartsWhereNoStepJoinsAcross(t *testing.T) {
	for d := range modelsOf("ab", 3) {
		checkParts(t, d, "aabbabaabab")
		checkParts(t, d, "baabbbaaaba")
	}
	r := rand.New(rand.NewSource(7))
	for range 300 {
		checkParts(t, someModel(r, "abc", 40), someText(r, "abc", 80))
	}
}

// checkParts cuts s behind each of its tokens: ahead of a cut and behind it stand the ids of the parts.
func checkParts(t *testing.T, d api.Data, s string) {
	t.Helper()
	m := made(t, d)
	ids, _ := bpe.Merge(m, s)
	at := 0
	for i := range len(ids) + 1 {
		ahead, why := bpe.Merge(m, s[:at])
		behind, no := bpe.Merge(m, s[at:])
		if why != api.OK || no != api.OK || !slices.Equal(ahead, ids[:i]) || !slices.Equal(behind, ids[i:]) {
			t.Fatalf("%q cut at %d by %v: %v and %v, want %v and %v", s, at, d.Merges, ahead, behind, ids[:i], ids[i:])
		}
		if i < len(ids) {
			at += len(wordOf(d, ids[i]))
		}
	}
	if at != len(s) {
		t.Fatalf("the words of %v have %d bytes, want %d", ids, at, len(s))
	}
}
