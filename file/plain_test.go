package file_test

import (
	"encoding/binary"
	"fmt"
	"hash/crc32"
	"math/rand"
	"slices"
	"strings"
	"testing"

	"tessera/api"
	"tessera/classes"
	"tessera/file"
	"tessera/model"
)

// join is a short form.
func join(left, right, id int) api.Merge { return api.Merge{Left: left, Right: right, Id: id} }

// span is a short form.
func span(lo, hi rune) api.Span { return api.Span{Lo: lo, Hi: hi} }

// of answers the data of words and merges, whose only class is that of the blank.
func of(words []string, merges ...api.Merge) api.Data {
	return api.Data{Words: words, Merges: merges, Spaces: []api.Span{span(32, 32)}}
}

// known is a right model with classes of each kind: words of words, and the word of one id behind that of a later one.
func known() api.Data {
	d := of([]string{"ab", "abcde", "abc", "de"}, join('a', 'b', 256), join(256, 'c', 258), join('d', 'e', 259), join(258, 259, 257))
	d.Letters, d.Numbers, d.Spaces = []api.Span{span('a', 'z'), span(0xe9, 0xe9)}, []api.Span{span('0', '9')}, []api.Span{span(9, 10), span(32, 32)}
	return d
}

// pairs is a right model of n merges of two bytes each.
func pairs(n int) api.Data {
	d := of(nil)
	for i := range n {
		left, right := i/64, i%64
		d.Words = append(d.Words, string([]byte{byte(left), byte(right)}))
		d.Merges = append(d.Merges, join(left, right, 256+i))
	}
	return d
}

// rising is a right model of words of 2 to most bytes, for each of so many bytes: each merge lays that byte behind the word ahead.
func rising(bytes, most int) api.Data {
	d := of(nil)
	for c := range bytes {
		left := c
		for n := 2; n <= most; n++ {
			id := 256 + len(d.Words)
			d.Words = append(d.Words, strings.Repeat(string([]byte{byte(c)}), n))
			d.Merges = append(d.Merges, join(left, c, id))
			left = id
		}
	}
	return d
}

// manySpans answers n spans of a rune each, from first on.
func manySpans(n int, first rune) []api.Span {
	var l []api.Span
	for i := range rune(n) {
		l = append(l, span(first+2*i, first+2*i))
	}
	return l
}

// greatest is a right model of long words and of as many spans as may be.
func greatest() api.Data {
	d := rising(16, api.MaxWord)
	d.Letters, d.Numbers, d.Spaces = manySpans(api.MaxSpans, 0x2000), manySpans(api.MaxSpans, 0x10fc00), append(d.Spaces, manySpans(api.MaxSpans-1, 0x2001)...)
	return d
}

// someRight answers a right model of at most n merges, whose words stand in any order.
func someRight(r *rand.Rand, n int) api.Data {
	words := []string{"a", "b", "\x00", "\xff"}
	d := of(nil)
	for range n {
		i, j := r.Intn(len(words)), r.Intn(len(words))
		w := words[i] + words[j]
		if len(w) <= api.MaxWord && !slices.Contains(words, w) {
			d.Merges = append(d.Merges, join(i, j, len(words))) // by places in words, till all ids are known
			words = append(words, w)
		}
	}
	ids := []int{'a', 'b', 0, 0xff}
	d.Words = make([]string, len(d.Merges))
	for i, at := range r.Perm(len(d.Merges)) {
		d.Words[at] = words[4+i]
		ids = append(ids, 256+at)
	}
	for i, x := range d.Merges {
		d.Merges[i] = join(ids[x.Left], ids[x.Right], ids[x.Id])
	}
	return d
}

// rightOnes hands out right models.
func rightOnes(yield func(api.Data) bool) {
	bare := known()
	bare.Words, bare.Merges = nil, nil
	all := of(nil)
	all.Letters, all.Spaces = []api.Span{span(0, 31), span(40, 0x10ffff)}, []api.Span{span(32, 38)}
	r := rand.New(rand.NewSource(1))
	for _, d := range []api.Data{
		of(nil), bare, all, known(), pairs(1), pairs(300), pairs(api.MaxMerges), rising(1, 2), rising(1, api.MaxWord), greatest(),
		of([]string{"\xff\x00", "\x00\xff", "\xff\x00\x00\xff"}, join(255, 0, 256), join(0, 255, 257), join(256, 257, 258)),
		someRight(r, 5), someRight(r, 20), someRight(r, 100),
	} {
		if !yield(d) {
			return
		}
	}
}

// smallOnes hands out the right models whose files are short.
func smallOnes(yield func(api.Data) bool) {
	for d := range rightOnes {
		if len(d.Words)+len(d.Spaces) < 30 && !yield(d) {
			return
		}
	}
}

// copied answers d in memory of its own.
func copied(d api.Data) api.Data {
	return api.Data{
		Words: slices.Clone(d.Words), Merges: slices.Clone(d.Merges),
		Letters: slices.Clone(d.Letters), Numbers: slices.Clone(d.Numbers), Spaces: slices.Clone(d.Spaces),
	}
}

// same tells whether a and b say the same, nil and empty lists being alike.
func same(a, b api.Data) bool {
	return slices.Equal(a.Words, b.Words) && slices.Equal(a.Merges, b.Merges) &&
		slices.Equal(a.Letters, b.Letters) && slices.Equal(a.Numbers, b.Numbers) && slices.Equal(a.Spaces, b.Spaces)
}

// told answers what t tells of in some words, which end soon.
func told(x any) string {
	s := fmt.Sprintf("%v", x)
	if d, ok := x.(api.Data); ok {
		s = fmt.Sprintf("%.20q, %v, %v, %v, %v", d.Words, d.Merges, d.Letters, d.Numbers, d.Spaces)
	}
	if len(s) > 600 {
		return s[:600] + " .."
	}
	return s
}

// made answers the model of d, which has to be right.
func made(t *testing.T, d api.Data) *model.Model {
	t.Helper()
	m, f := model.New(d)
	if m == nil {
		t.Fatalf("New(%s): %+v", told(d), f)
	}
	return m
}

// plainNumber is a number of a file.
func plainNumber(f []byte, n int) []byte { return binary.BigEndian.AppendUint32(f, uint32(n)) }

// plainSum answers f with the sum of all of it behind it.
func plainSum(f []byte) []byte { return binary.BigEndian.AppendUint32(f, crc32.ChecksumIEEE(f)) }

// listsOf answers the lists of spans of d, by their numbers.
func listsOf(d *api.Data) []*[]api.Span {
	return []*[]api.Span{classes.Letters: &d.Letters, classes.Numbers: &d.Numbers, classes.Spaces: &d.Spaces}
}

// plainFile is the chapter's file word by word, of data that may be wrong, too.
func plainFile(d api.Data) []byte {
	f := plainNumber([]byte("BPE1"), len(d.Words))
	for _, w := range d.Words {
		f = append(plainNumber(f, len(w)), w...)
	}
	for _, x := range d.Merges {
		f = plainNumber(plainNumber(plainNumber(f, x.Left), x.Right), x.Id)
	}
	for _, l := range listsOf(&d)[1:] {
		f = plainNumber(f, len(*l))
		for _, s := range *l {
			f = plainNumber(plainNumber(f, int(s.Lo)), int(s.Hi))
		}
	}
	return plainSum(f)
}

// wordAt answers where the length of that word stands in the file of d, or what is behind the last word.
func wordAt(d api.Data, row int) int {
	at := 8
	for _, w := range d.Words[:row] {
		at += 4 + len(w)
	}
	return at
}

// mergeAt answers where the Left of the merge stands in the file of d, or what is behind the last one.
func mergeAt(d api.Data, rank int) int { return wordAt(d, len(d.Words)) + 12*rank }

// spanAt answers where the Lo of the list's span stands in the file of d, or what is behind the last one.
func spanAt(d api.Data, list, row int) int {
	at := mergeAt(d, len(d.Merges))
	for _, l := range listsOf(&d)[1:list] {
		at += 4 + 8*len(*l)
	}
	return at + 4 + 8*row
}

// plainPlace is the place of the row of which f tells in the file of d.
func plainPlace(d api.Data, f model.Fault) int {
	switch {
	case f.List == model.Words:
		return wordAt(d, f.Row)
	case f.List == model.Merges:
		return mergeAt(d, f.Row)
	case f.Why == api.ErrBlank && len(d.Spaces) == 0:
		return spanAt(d, classes.Spaces, 0) - 4
	}
	return spanAt(d, f.List, f.Row)
}

// plainLoad is P6.2 word by word: what it reads, or what it refuses.
func plainLoad(f []byte) (d api.Data, no file.Refusal) {
	defer func() {
		if x := recover(); x != nil {
			d, no = api.Data{}, x.(file.Refusal) // all else goes on
		}
	}()
	if len(f) > api.MaxFile {
		panic(file.Refusal{At: 0, Why: api.ErrLong})
	}
	for i, c := range []byte("BPE1") {
		if len(f) <= i || f[i] != c {
			panic(file.Refusal{At: i, Why: api.ErrMagic})
		}
	}
	d, at := plainLists(f)
	sum, behind := plainGet(f, at)
	if behind < len(f) {
		panic(file.Refusal{At: behind, Why: api.ErrTail})
	}
	if uint32(sum) != crc32.ChecksumIEEE(f[:at]) {
		panic(file.Refusal{At: at, Why: api.ErrSum})
	}
	if _, x := model.New(d); x.Why != api.OK {
		panic(file.Refusal{At: plainPlace(d, x), Why: x.Why})
	}
	return d, no
}

// plainGet reads a number, or panics with the refusal.
func plainGet(f []byte, at int) (int64, int) {
	if len(f) < at+4 {
		panic(file.Refusal{At: len(f), Why: api.ErrShort})
	}
	return int64(binary.BigEndian.Uint32(f[at:])), at + 4
}

// plainAsked is plainGet of a number that has to be from least to most.
func plainAsked(f []byte, at int, least, most int64, why api.Errno) (int, int) {
	n, behind := plainGet(f, at)
	if n < least || n > most {
		panic(file.Refusal{At: at, Why: why})
	}
	return int(n), behind
}

// plainLists reads what stands between the first four bytes and the sum.
func plainLists(f []byte) (d api.Data, at int) {
	words, at := plainAsked(f, 4, 0, 4096, api.ErrMany)
	for range words {
		var n int
		n, at = plainAsked(f, at, 2, 256, api.ErrWord)
		if len(f) < at+n {
			panic(file.Refusal{At: len(f), Why: api.ErrShort})
		}
		d.Words = append(d.Words, string(f[at:at+n]))
		at += n
	}
	for range words {
		var x api.Merge
		for _, n := range []*int{&x.Left, &x.Right, &x.Id} {
			*n, at = plainAsked(f, at, 0, 1<<31-1, api.ErrId)
		}
		d.Merges = append(d.Merges, x)
	}
	for _, l := range listsOf(&d)[1:] {
		var n, lo, hi int
		n, at = plainAsked(f, at, 0, 512, api.ErrMany)
		for range n {
			lo, at = plainAsked(f, at, 0, 0x10ffff, api.ErrRune)
			hi, at = plainAsked(f, at, 0, 0x10ffff, api.ErrRune)
			*l = append(*l, span(rune(lo), rune(hi)))
		}
	}
	return d, at
}
