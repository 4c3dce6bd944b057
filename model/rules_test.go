package model_test

import (
	"math"
	"math/rand"
	"slices"
	"strings"
	"sync"
	"testing"
	"unsafe"

	"tessera/api"
	"tessera/classes"
	"tessera/model"
)

// R1, R3: whatever data is given, New ends, and answers either a model or a refusal, whose place is one of the lists.
func TestNewOfWhateverData(t *testing.T) {
	r := rand.New(rand.NewSource(4))
	ids := []int{math.MinInt, -1, 0, 1, 255, 256, 257, 258, 511, 512, math.MaxInt}
	words := []string{"", "a", "ab", "\x00\x01", "\x01\x00", "\xff\xff", strings.Repeat("a", 256), strings.Repeat("a", 257), strings.Repeat("a", 1<<20)}
	for range 20000 {
		var d api.Data
		for range r.Intn(6) {
			d.Words = append(d.Words, words[r.Intn(len(words))])
		}
		for range r.Intn(6) {
			d.Merges = append(d.Merges, join(ids[r.Intn(len(ids))], ids[r.Intn(len(ids))], ids[r.Intn(len(ids))]))
		}
		for list := classes.Letters; list <= classes.Spaces; list++ {
			l := listOf(&d, list)
			if r.Intn(3) == 0 {
				*l = []api.Span{span(rune(r.Uint32()), rune(r.Uint32()))}
			}
		}
		if r.Intn(2) == 0 {
			d.Letters, d.Numbers, d.Spaces = nil, nil, blanks()
		}
		checkWhatever(t, d)
	}
	big := pairs(1 << 16)
	checkWhatever(t, big)
	checkWhatever(t, api.Data{Words: big.Words, Spaces: blanks()})
	checkWhatever(t, api.Data{Merges: big.Merges, Spaces: blanks()})
	checkWhatever(t, api.Data{Words: make([]string, api.MaxMerges), Merges: make([]api.Merge, api.MaxMerges), Spaces: blanks()})
	checkWhatever(t, api.Data{Letters: make([]api.Span, 1<<16), Spaces: blanks()})
}

// checkWhatever holds what New answers of d against the chapter, and its form against R3.
func checkWhatever(t *testing.T, d api.Data) {
	t.Helper()
	m, f := model.New(d)
	if f != plainFault(d) || (m != nil) != (f == model.Fault{}) || (m == nil) != (f.Why != api.OK) {
		t.Fatalf("New(%s): %v, %+v, want %+v", told(d), m != nil, f, plainFault(d))
	}
	if m == nil && (f.List < classes.Letters || f.List > model.Merges || f.Row < 0) {
		t.Fatalf("New(%s): %+v", told(d), f)
	}
	_, bare := model.Bare(d.Letters, d.Numbers, d.Spaces)
	d.Words, d.Merges = nil, nil
	if bare != plainFault(d) {
		t.Fatalf("Bare(%s): %+v, want %+v", told(d), bare, plainFault(d))
	}
}

// roomy answers l with spare room behind it, which holds more.
func roomy[T any](l []T, more ...T) []T {
	big := slices.Concat(l, more)
	return big[:len(l):len(big)]
}

// withRoom answers d in lists that have spare room, in which more stands.
func withRoom(d api.Data) api.Data {
	d.Words, d.Merges = roomy(d.Words, "zz", "ab"), roomy(d.Merges, join('z', 'z', 256), join(-1, -1, -1))
	d.Letters, d.Numbers, d.Spaces = roomy(d.Letters, span(0x10f000, 0x10f001)), roomy(d.Numbers, span(0x10f003, 0x10f004)), roomy(d.Spaces, span(-5, -6))
	return d
}

// whole answers d's lists with all that they have room for.
func whole(d api.Data) api.Data {
	d.Words, d.Merges = d.Words[:cap(d.Words)], d.Merges[:cap(d.Merges)]
	d.Letters, d.Numbers, d.Spaces = d.Letters[:cap(d.Letters)], d.Numbers[:cap(d.Numbers)], d.Spaces[:cap(d.Spaces)]
	return d
}

// overwrite writes over all that d's lists have room for.
func overwrite(d api.Data) {
	d = whole(d)
	for i := range d.Words {
		d.Words[i] = "zz"
	}
	for i := range d.Merges {
		d.Merges[i] = join('z', 'z', 256)
	}
	for _, l := range [][]api.Span{d.Letters, d.Numbers, d.Spaces} {
		for i := range l {
			l[i] = span('A', 'Z')
		}
	}
}

// says holds all that m says against d. (It may run in several goroutines.)
func says(t *testing.T, m *model.Model, d api.Data) {
	t.Helper()
	longest := 1
	for i, want := range d.Words {
		longest = max(longest, len(want))
		if w, ok := m.Word(256 + i); w != want || !ok {
			t.Errorf("%s: Word(%d): %q, %v", told(d), 256+i, w, ok)
		}
	}
	if !same(m.Data(), d) || m.Size() != 256+len(d.Words) || m.Longest() != longest {
		t.Errorf("%s: %s, %d, %d", told(d), told(m.Data()), m.Size(), m.Longest())
	}
	for rank, x := range d.Merges {
		if got, id, ok := m.Merge(x.Left, x.Right); got != rank || id != x.Id || !ok {
			t.Errorf("%s: Merge(%d, %d): %d, %d, %v", told(d), x.Left, x.Right, got, id, ok)
		}
	}
	if rank, id, ok := m.Merge('z', 'z'); ok {
		t.Errorf("%s: Merge of z, z: %d, %d", told(d), rank, id)
	}
	table, _ := classes.New(d.Letters, d.Numbers, d.Spaces)
	for r := rune(-1); r < 300; r++ {
		if m.Table().Of(r) != table.Of(r) {
			t.Errorf("%s: Of(%#x): %d", told(d), r, m.Table().Of(r))
		}
	}
}

// R2: the lists that are handed in stay as they were, their spare room too.
func TestListsStayAsTheyWere(t *testing.T) {
	spoilt := func(yield func(api.Data) bool) {
		for d := range rightOnes {
			if !yield(d) {
				return
			}
		}
		for _, f := range faults {
			d := known()
			f.spoil(&d)
			if !yield(d) {
				return
			}
		}
	}
	for d := range spoilt {
		in := withRoom(d)
		before := copied(whole(in))
		if m, _ := model.New(in); m != nil {
			says(t, m, d)
			overwrite(m.Data())
		}
		if m, _ := model.Bare(in.Letters, in.Numbers, in.Spaces); m != nil {
			overwrite(m.Data())
		}
		if !same(whole(in), before) {
			t.Fatalf("the lists were changed: %s, were %s", told(whole(in)), told(before))
		}
	}
}

// R2: a Model keeps nothing of the lists: written over behind New, it says what it said.
func TestModelsKeepNoList(t *testing.T) {
	for d := range rightOnes {
		in := withRoom(d)
		m := made(t, in)
		overwrite(in)
		says(t, m, d)
		in = withRoom(d)
		bare, _ := model.Bare(in.Letters, in.Numbers, in.Spaces)
		overwrite(in)
		d.Words, d.Merges = nil, nil
		says(t, bare, d)
	}
}

// R2: a word that is cut out of a long text doesn't keep that text.
func TestModelsKeepNoText(t *testing.T) {
	long := strings.Repeat("ab", 1<<16)
	m := made(t, of([]string{long[:2]}, join('a', 'b', 256)))
	if w, _ := m.Word(256); unsafe.StringData(w) == unsafe.StringData(long) {
		t.Error("the word lies in the text that was handed in")
	}
}

// R2: what Data answers is the caller's own: neither the model nor another answer goes along with it.
func TestDataIsTheCallersOwn(t *testing.T) {
	for d := range rightOnes {
		m := made(t, d)
		one, two := m.Data(), m.Data()
		overwrite(one)
		if !same(two, d) {
			t.Fatalf("%s: another answer went along: %s", told(d), told(two))
		}
		says(t, m, d)
	}
}

// R2: no two lists of one answer share memory, even where those handed in did.
func TestListsOfOneAnswerAreApart(t *testing.T) {
	all := []api.Span{span('0', '9'), span('a', 'z'), span(32, 32)}
	d := api.Data{Letters: all[1:2], Numbers: all[:1], Spaces: all[2:]}
	got := made(t, d).Data()
	for i := range 3 {
		l := *listOf(&got, i+1)
		for j := range l[:cap(l)] {
			l[:cap(l)][j] = span(rune(i), rune(i))
		}
	}
	for i := range 3 {
		for _, s := range *listOf(&got, i+1) {
			if s != span(rune(i), rune(i)) {
				t.Errorf("the list %d was written over: %v", i+1, s)
			}
		}
	}
}

// R4: nil and empty lists mean the same.
func TestNoListAndAnEmptyOne(t *testing.T) {
	for _, words := range [][]string{nil, {}, roomy(nil, "a", "a")} {
		for _, merges := range [][]api.Merge{nil, {}, roomy(nil, join(-1, -1, -1))} {
			for _, none := range [][]api.Span{nil, {}, roomy(nil, span(5, 4))} {
				d := api.Data{Words: words, Merges: merges, Letters: none, Numbers: none, Spaces: blanks()}
				check(t, d, model.Fault{})
				says(t, made(t, d), of(nil))
				d.Spaces = none
				checkBare(t, d, model.Fault{Why: api.ErrBlank, List: classes.Spaces})
			}
		}
	}
}

// R5: the room behind a list isn't read.
func TestSpareRoomIsNotRead(t *testing.T) {
	for d := range rightOnes {
		check(t, withRoom(d), model.Fault{})
		says(t, made(t, withRoom(d)), d)
	}
	more := pairs(api.MaxMerges + 1)
	check(t, of(more.Words[:api.MaxMerges], more.Merges[:api.MaxMerges]...), model.Fault{})
	check(t, of(more.Words[:2], more.Merges[:3]...), inWords(api.ErrMany, 2))
}

// Two models of the same lists don't hang on one another.
func TestModelsOfTheSameLists(t *testing.T) {
	d := known()
	one, two := made(t, d), made(t, d)
	overwrite(one.Data())
	says(t, two, known())
	says(t, one, known())
}

// R9: several goroutines may ask one model.
func TestModelsAreAskedTogether(t *testing.T) {
	m := made(t, known())
	var all sync.WaitGroup
	for range 8 {
		all.Go(func() {
			for range 50 {
				says(t, m, known())
			}
		})
	}
	all.Wait()
}
