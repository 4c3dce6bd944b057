package model_test

import (
	"math"
	"math/rand"
	"testing"

	"tessera/api"
	"tessera/model"
)

// noIds are no model's ids.
var noIds = []int{math.MinInt, math.MinInt + 256, -1 << 32, -257, -256, -1, 256 + api.MaxMerges, 1 << 32, 1<<32 + 'a', math.MaxInt}

// someIds answers ids of m, of all of it or of its ends, and some that are none.
func someIds(m *model.Model) []int {
	ids := append([]int{m.Size(), m.Size() + 1}, noIds...)
	for id := range m.Size() {
		if m.Size() < 300 || id < 3 || id > 'a'-2 && id < 'a'+3 || id > 253 && id < 260 || id > m.Size()-4 {
			ids = append(ids, id)
		}
	}
	return ids
}

// P5.2

func TestDataIsWhatItWasMadeOf(t *testing.T) {
	for d := range rightOnes {
		if m := made(t, d); !same(m.Data(), d) {
			t.Errorf("%s: Data: %s", told(d), told(m.Data()))
		}
	}
}

func TestSize(t *testing.T) {
	for d := range rightOnes {
		if m := made(t, d); m.Size() != 256+len(d.Words) {
			t.Errorf("%s: Size: %d", told(d), m.Size())
		}
	}
	if m := made(t, of(nil)); m.Size() != 256 {
		t.Errorf("without words: %d", m.Size())
	}
}

func TestWord(t *testing.T) {
	for d := range rightOnes {
		m := made(t, d)
		for id := range m.Size() {
			if w, ok := m.Word(id); w != plainWord(d, id) || !ok {
				t.Fatalf("%s: Word(%d): %q, %v", told(d), id, w, ok)
			}
		}
		for _, id := range append([]int{m.Size(), m.Size() + 1}, noIds...) {
			if w, ok := m.Word(id); w != "" || ok {
				t.Errorf("%s: Word(%d): %q, %v", told(d), id, w, ok)
			}
		}
	}
}

func TestMergeOfKnownPairs(t *testing.T) {
	m := made(t, known())
	for _, c := range []struct {
		left, right, rank, id int
		ok                    bool
	}{
		{'a', 'b', 0, 256, true}, {256, 'c', 1, 258, true}, {'d', 'e', 2, 259, true},
		{258, 259, 3, 257, true}, {'x', 'x', 4, 260, true}, {260, 260, 5, 261, true},
		{'b', 'a', 0, 0, false}, {'a', 'a', 0, 0, false}, {259, 258, 0, 0, false}, {256, 256, 0, 0, false},
		{257, 0, 0, 0, false}, {-1, 'b', 0, 0, false}, {'a', -1, 0, 0, false}, {262, 262, 0, 0, false},
		{'a' + 256, 'b', 0, 0, false}, {'a', 'b' + 256, 0, 0, false}, {1<<32 + 'a', 'b', 0, 0, false},
	} {
		if rank, id, ok := m.Merge(c.left, c.right); rank != c.rank || id != c.id || ok != c.ok {
			t.Errorf("Merge(%d, %d): %d, %d, %v, want %+v", c.left, c.right, rank, id, ok, c)
		}
	}
}

func TestMergeOfEachPair(t *testing.T) {
	for d := range rightOnes {
		m := made(t, d)
		for _, x := range d.Merges {
			checkPair(t, m, d, x.Left, x.Right)
			checkPair(t, m, d, x.Right, x.Left)
		}
		ids := someIds(m)
		for _, left := range ids {
			for _, right := range ids {
				checkPair(t, m, d, left, right)
			}
		}
	}
}

// checkPair holds m's merge of left and right against the chapter.
func checkPair(t *testing.T, m *model.Model, d api.Data, left, right int) {
	t.Helper()
	wantRank, wantId, want := plainPair(d, left, right)
	if rank, id, ok := m.Merge(left, right); rank != wantRank || id != wantId || ok != want {
		t.Fatalf("%s: Merge(%d, %d): %d, %d, %v, want %d, %d, %v", told(d), left, right, rank, id, ok, wantRank, wantId, want)
	}
}

func TestTable(t *testing.T) {
	bare, f := model.Bare(known().Letters, known().Numbers, known().Spaces)
	if bare == nil {
		t.Fatal(f)
	}
	for _, m := range []*model.Model{made(t, known()), bare} {
		for r, want := range map[rune]int{
			'a': api.Letter, 'z': api.Letter, 0xe9: api.Letter, '0': api.Number, '9': api.Number,
			' ': api.Space, 10: api.Space, '\'': api.Other, 'A': api.Other, -1: api.Other,
		} {
			if got := m.Table().Of(r); got != want {
				t.Errorf("Of(%#x): %d, want %d", r, got, want)
			}
		}
	}
	if x := made(t, of(nil)).Table(); x.Of('a') != api.Other || x.Of(' ') != api.Space {
		t.Error("the classes are another model's")
	}
}

func TestLongest(t *testing.T) {
	for d := range rightOnes {
		want := 1
		for _, w := range d.Words {
			want = max(want, len(w))
		}
		if got := made(t, d).Longest(); got != want {
			t.Errorf("%s: Longest: %d, want %d", told(d), got, want)
		}
	}
	for n := 1; n < api.MaxWord; n++ {
		if got := made(t, rising(n)).Longest(); got != n+1 {
			t.Errorf("Longest of words up to %d bytes: %d", n+1, got)
		}
	}
	if got := made(t, of(nil)).Longest(); got != 1 {
		t.Errorf("without words: %d", got)
	}
}

// P5.3 (W7)

// Each id but the bytes comes of just one merge, whose parts are shorter and of lesser ranks.
func TestWordsComeOfBytesByRisingRanks(t *testing.T) {
	for d := range rightOnes {
		m := made(t, d)
		rankOf := map[int]int{}
		for rank, x := range m.Data().Merges {
			if _, ok := rankOf[x.Id]; ok || x.Id < 256 {
				t.Fatalf("%s: %d is made twice, or a byte", told(d), x.Id)
			}
			word, _ := m.Word(x.Id)
			for _, part := range []int{x.Left, x.Right} {
				w, ok := m.Word(part)
				if !ok || len(w) >= len(word) {
					t.Fatalf("%s: the part %q of %q", told(d), w, word)
				}
				if _, ok := rankOf[part]; !ok && part > 255 {
					t.Fatalf("%s: the part %d of %d is not made yet", told(d), part, x.Id)
				}
			}
			if got, id, ok := m.Merge(x.Left, x.Right); got != rank || id != x.Id || !ok {
				t.Fatalf("%s: Merge(%d, %d): %d, %d, %v", told(d), x.Left, x.Right, got, id, ok)
			}
			rankOf[x.Id] = rank
		}
		if len(rankOf) != m.Size()-256 {
			t.Errorf("%s: %d of %d words are made", told(d), len(rankOf), m.Size()-256)
		}
	}
}

// Taken apart by its merge, and its parts by theirs, each word comes to its bytes, by ranks that fall.
func TestEachWordComesToItsBytes(t *testing.T) {
	for d := range rightOnes {
		m := made(t, d)
		ranks := map[int]int{}
		for rank, x := range d.Merges {
			ranks[x.Id] = rank
		}
		for id := 256; id < m.Size(); id++ {
			if got, want := bytesUnder(t, d, ranks, id), plainWord(d, id); got != want {
				t.Fatalf("%s: the bytes under %d: %q, want %q", told(d), id, got, want)
			}
		}
	}
}

// bytesUnder answers the bytes of which id comes, and holds the ranks of its parts against its own.
func bytesUnder(t *testing.T, d api.Data, ranks map[int]int, id int) string {
	t.Helper()
	rank, ok := ranks[id]
	if !ok {
		return string([]byte{byte(id)})
	}
	x := d.Merges[rank]
	for _, part := range []int{x.Left, x.Right} {
		if below, ok := ranks[part]; ok && below >= rank {
			t.Fatalf("%s: the merge %d has a part of the merge %d", told(d), rank, below)
		}
	}
	return bytesUnder(t, d, ranks, x.Left) + bytesUnder(t, d, ranks, x.Right)
}

// P5.4

func TestMovedWordsAndRenamedIds(t *testing.T) {
	r := rand.New(rand.NewSource(3))
	for d := range rightOnes {
		m := made(t, d)
		for range 3 {
			to := r.Perm(len(d.Words))
			other := made(t, moved(d, to))
			if other.Size() != m.Size() || other.Longest() != m.Longest() {
				t.Fatalf("%s moved: %d, %d", told(d), other.Size(), other.Longest())
			}
			for _, id := range someIds(m) {
				want, isWord := m.Word(id)
				if w, ok := other.Word(renamed(id, to)); w != want || ok != isWord {
					t.Fatalf("%s moved: Word(%d): %q, %v, want %q", told(d), id, w, ok, want)
				}
			}
			checkMoved(t, m, other, to)
		}
	}
}

// checkMoved holds against each other what two models merge of which one is the other with its ids renamed.
func checkMoved(t *testing.T, m, other *model.Model, to []int) {
	t.Helper()
	pairs := m.Data().Merges
	ids := someIds(m)
	for _, left := range ids {
		for _, right := range ids {
			pairs = append(pairs, api.Merge{Left: left, Right: right})
		}
	}
	for _, x := range pairs {
		wantRank, wantId, want := m.Merge(x.Left, x.Right)
		rank, id, ok := other.Merge(renamed(x.Left, to), renamed(x.Right, to))
		if ok != want || rank != wantRank || want && id != renamed(wantId, to) || !want && id != 0 {
			t.Fatalf("Merge(%d, %d): %d, %d, %v, want %d, %d, %v by other names", x.Left, x.Right, rank, id, ok, wantRank, wantId, want)
		}
	}
}

// Ids that are renamed where the words are not moved make other words.
func TestRenamedIdsAlone(t *testing.T) {
	d := of([]string{"ab", "cd"}, join('a', 'b', 256), join('c', 'd', 257))
	d.Words[0], d.Words[1] = d.Words[1], d.Words[0]
	check(t, d, inMerges(api.ErrBytes, 0))
	d.Merges[0].Id, d.Merges[1].Id = 257, 256
	check(t, d, model.Fault{})
}
