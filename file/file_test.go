package file_test

import (
	"bytes"
	"encoding/binary"
	"errors"
	"hash/crc32"
	"math/rand"
	"slices"
	"strings"
	"testing"

	"tessera/api"
	"tessera/classes"
	"tessera/file"
	"tessera/model"
)

// refused holds what Load answers of f against a refusal, and this against the chapter.
func refused(t *testing.T, f []byte, at int, why api.Errno) {
	t.Helper()
	checkRefused(t, f, file.Refusal{At: at, Why: why})
	if d, no := plainLoad(f); no != (file.Refusal{At: at, Why: why}) {
		t.Errorf("plain Load(%s): %s, %+v, want %v at %d", told(f), told(d), no, why, at)
	}
}

// checkRefused holds what Load answers of f against a refusal.
func checkRefused(t *testing.T, f []byte, want file.Refusal) {
	t.Helper()
	m, err := file.Load(f)
	var no *file.Refusal
	if m != nil || !errors.As(err, &no) || *no != want || !errors.Is(err, want.Why) || no.Error() == "" {
		t.Fatalf("Load(%s): %v, %+v, want %+v", told(f), m != nil, err, want)
	}
}

// loaded answers the data of the model of f, which has to be a file.
func loaded(t *testing.T, f []byte) api.Data {
	t.Helper()
	m, err := file.Load(f)
	if m == nil || err != nil {
		t.Fatalf("Load(%s): %v, %v", told(f), m != nil, err)
	}
	return m.Data()
}

// like holds what Load answers of f against the chapter, and answers whether f is a file, and the refusal.
func like(t *testing.T, f []byte) (bool, file.Refusal) {
	t.Helper()
	d, no := plainLoad(f)
	if no.Why != api.OK {
		checkRefused(t, f, no)
		return false, no
	}
	if got := loaded(t, f); !same(got, d) {
		t.Fatalf("Load(%s): %s, want %s", told(f), told(got), told(d))
	}
	return true, no
}

// with answers f with the number n at the place at.
func with(f []byte, at int, n uint32) []byte {
	g := bytes.Clone(f)
	binary.BigEndian.PutUint32(g[at:], n)
	return g
}

// summed answers f with its sum set right.
func summed(f []byte) []byte { return plainSum(slices.Clip(f[:len(f)-4])) }

// P6.1

func TestSaveOfBare(t *testing.T) {
	m, _ := model.Bare(nil, nil, []api.Span{span(32, 32)})
	want := append([]byte("BPE1"),
		0, 0, 0, 0,
		0, 0, 0, 0, 0, 0, 0, 0,
		0, 0, 0, 1, 0, 0, 0, 32, 0, 0, 0, 32)
	want = binary.BigEndian.AppendUint32(want, crc32.ChecksumIEEE(want))
	if got := file.Save(m); !bytes.Equal(got, want) || len(got) != 32 {
		t.Errorf("%v, want %v", got, want)
	}
}

func TestSaveOfKnown(t *testing.T) {
	d := of([]string{"abc", "ab"}, join('a', 'b', 257), join(257, 'c', 256))
	d.Letters, d.Numbers, d.Spaces = []api.Span{span('a', 'z')}, []api.Span{span('0', '9')}, []api.Span{span(9, 10), span(32, 32), span(0x10fffe, 0x10ffff)}
	want := slices.Concat([]byte("BPE1"),
		[]byte{0, 0, 0, 2, 0, 0, 0, 3, 'a', 'b', 'c', 0, 0, 0, 2, 'a', 'b'},
		[]byte{0, 0, 0, 'a', 0, 0, 0, 'b', 0, 0, 1, 1, 0, 0, 1, 1, 0, 0, 0, 'c', 0, 0, 1, 0},
		[]byte{0, 0, 0, 1, 0, 0, 0, 'a', 0, 0, 0, 'z'},
		[]byte{0, 0, 0, 1, 0, 0, 0, '0', 0, 0, 0, '9'},
		[]byte{0, 0, 0, 3, 0, 0, 0, 9, 0, 0, 0, 10, 0, 0, 0, 32, 0, 0, 0, 32, 0, 0x10, 0xff, 0xfe, 0, 0x10, 0xff, 0xff})
	want = binary.BigEndian.AppendUint32(want, crc32.ChecksumIEEE(want))
	if got := file.Save(made(t, d)); !bytes.Equal(got, want) {
		t.Errorf("%v, want %v", got, want)
	}
	if got := loaded(t, want); !same(got, d) {
		t.Errorf("read again: %s, want %s", told(got), told(d))
	}
}

func TestSave(t *testing.T) {
	for d := range rightOnes {
		if got, want := file.Save(made(t, d)), plainFile(d); !bytes.Equal(got, want) {
			t.Errorf("%s: %s, want %s", told(d), told(got), told(want))
		}
	}
}

func TestSaveOfNoModel(t *testing.T) {
	if got := file.Save(nil); len(got) > 0 {
		t.Errorf("%v", got)
	}
}

// P6.2

func TestLoadOfBare(t *testing.T) {
	if got := loaded(t, plainFile(of(nil))); !same(got, of(nil)) {
		t.Errorf("%s", told(got))
	}
}

func TestLoad(t *testing.T) {
	for d := range rightOnes {
		if got := loaded(t, plainFile(d)); !same(got, d) {
			t.Errorf("%s, want %s", told(got), told(d))
		}
	}
}

// The chapter's first rule: above MaxFile bytes nothing else is asked.
func TestLoadOfLongFiles(t *testing.T) {
	refused(t, make([]byte, api.MaxFile+1), 0, api.ErrLong)
	refused(t, make([]byte, api.MaxFile), 0, api.ErrMagic)
	refused(t, make([]byte, 2*api.MaxFile), 0, api.ErrLong)
	for _, d := range []api.Data{of(nil), known(), greatest()} {
		f := plainFile(d)
		long := append(bytes.Clone(f), make([]byte, api.MaxFile+1-len(f))...)
		refused(t, long, 0, api.ErrLong)
		refused(t, long[:api.MaxFile], len(f), api.ErrTail)
		refused(t, with(long, 4, 1<<31), 0, api.ErrLong)
		refused(t, with(long[:api.MaxFile], 4, 1<<31), 4, api.ErrMany)
	}
}

func TestLoadOfOtherFirstBytes(t *testing.T) {
	f := plainFile(known())
	for at := range 4 {
		refused(t, f[:at], at, api.ErrMagic)
		for c := range 256 {
			if byte(c) == f[at] {
				continue
			}
			g := bytes.Clone(f)
			g[at] = byte(c)
			refused(t, g, at, api.ErrMagic)
			refused(t, summed(g), at, api.ErrMagic)
			refused(t, g[:at+1], at, api.ErrMagic)
			copy(g[at+1:], "xxxx")
			refused(t, g, at, api.ErrMagic)
		}
	}
	refused(t, nil, 0, api.ErrMagic)
	refused(t, []byte{}, 0, api.ErrMagic)
	refused(t, []byte("BP"), 2, api.ErrMagic)
	refused(t, []byte("BPX1"), 2, api.ErrMagic)
	refused(t, []byte("BPX"), 2, api.ErrMagic)
	refused(t, []byte("bpe1"), 0, api.ErrMagic)
	refused(t, []byte("BPE2"), 3, api.ErrMagic)
	refused(t, []byte("BPE1"), 4, api.ErrShort)
}

// Each file, cut off at each of its bytes.
func TestLoadOfFilesThatEndTooEarly(t *testing.T) {
	for d := range smallOnes {
		f := plainFile(d)
		for n := range f {
			if n < 4 {
				refused(t, f[:n], n, api.ErrMagic)
			} else {
				refused(t, f[:n], n, api.ErrShort)
			}
		}
	}
	f := plainFile(greatest())
	for n := 4; n < len(f); n += 1 + n/60 {
		refused(t, f[:n], n, api.ErrShort)
	}
	refused(t, f[:len(f)-1], len(f)-1, api.ErrShort)
}

// A sum set right doesn't make a file of what ends too early, and of what stands behind the end nothing is read.
func TestLoadOfSumsAmidTheFile(t *testing.T) {
	d := known()
	f := plainFile(d)
	for n := 8; n < len(f)-4; n++ {
		if _, no := like(t, plainSum(slices.Clip(f[:n]))); no.Why == api.OK {
			t.Errorf("a file of %d bytes and a sum is taken", n)
		}
		if _, no := like(t, f[:n:n]); no != (file.Refusal{At: n, Why: api.ErrShort}) {
			t.Errorf("of %d bytes: %+v", n, no)
		}
	}
}

func TestLoadOfTooManyWords(t *testing.T) {
	f := plainFile(of(nil))
	for _, n := range []uint32{api.MaxMerges + 1, api.MaxMerges + 2, 1 << 16, 1<<31 - 1, 1 << 31, 1<<32 - 1} {
		refused(t, with(f, 4, n), 4, api.ErrMany)
		refused(t, with(f, 4, n)[:8], 4, api.ErrMany)
		refused(t, with(plainFile(pairs(api.MaxMerges)), 4, n), 4, api.ErrMany)
		refused(t, summed(with(f, 4, n)), 4, api.ErrMany)
	}
	more := plainFile(pairs(api.MaxMerges + 1))
	refused(t, more, 4, api.ErrMany)
	if d := pairs(api.MaxMerges); !same(loaded(t, plainFile(d)), d) {
		t.Error("as many merges as may be")
	}
	refused(t, with(f, 4, api.MaxMerges)[:8], 8, api.ErrShort)
	refused(t, f[:7], 7, api.ErrShort)
}

func TestLoadOfTooManySpans(t *testing.T) {
	for list := classes.Letters; list <= classes.Spaces; list++ {
		d := known()
		l := listsOf(&d)[list]
		*l = append(*l, manySpans(api.MaxSpans-len(*l), 0x2000)...)
		if got := loaded(t, plainFile(d)); !same(got, d) {
			t.Errorf("as many spans as may be: %s", told(got))
		}
		at := spanAt(d, list, 0) - 4
		for _, n := range []uint32{api.MaxSpans + 1, 1 << 16, 1<<31 - 1, 1 << 31, 1<<32 - 1} {
			refused(t, with(plainFile(d), at, n), at, api.ErrMany)
			refused(t, with(plainFile(d), at, n)[:at+4], at, api.ErrMany)
		}
		refused(t, plainFile(d)[:at+4], at+4, api.ErrShort)
		*l = append(*l, span(0x9000, 0x9000))
		refused(t, plainFile(d), at, api.ErrMany)
	}
}

func TestLoadOfWordsOfEachLength(t *testing.T) {
	for n := range api.MaxWord + 3 {
		d := known()
		d.Words[1] = strings.Repeat("a", n)
		at := wordAt(d, 1)
		f := plainFile(d)
		if n < 2 || n > api.MaxWord {
			refused(t, f, at, api.ErrWord)
			refused(t, f[:at+4], at, api.ErrWord) // the length stands ahead of what is missing
		} else {
			refused(t, f, mergeAt(d, 3), api.ErrBytes)
			refused(t, f[:at+4], at+4, api.ErrShort)
			refused(t, f[:at+3+n], at+3+n, api.ErrShort)
		}
	}
	f := plainFile(known())
	for row := range 4 {
		at := wordAt(known(), row)
		for _, n := range []uint32{0, 1, api.MaxWord + 1, 1 << 16, 1<<31 - 1, 1 << 31, 1<<32 - 1} {
			refused(t, with(f, at, n), at, api.ErrWord)
		}
	}
	for _, d := range []api.Data{rising(1, 2), rising(1, api.MaxWord), rising(16, api.MaxWord)} {
		if got := loaded(t, plainFile(d)); !same(got, d) {
			t.Errorf("%s", told(got))
		}
	}
	refused(t, plainFile(rising(1, api.MaxWord+1)), wordAt(rising(1, api.MaxWord), api.MaxWord-1), api.ErrWord)
}

func TestLoadOfRunesAtTheEnd(t *testing.T) {
	for list := classes.Letters; list <= classes.Spaces; list++ {
		d := known()
		l := listsOf(&d)[list]
		*l = append(*l, span(0x10ffff, 0x10ffff))
		if got := loaded(t, plainFile(d)); !same(got, d) {
			t.Errorf("the last rune: %s", told(got))
		}
		for row := range *l {
			at := spanAt(d, list, row)
			for _, r := range []uint32{0x110000, 0x110001, 1<<31 - 1, 1 << 31, 1<<32 - 1} {
				refused(t, with(plainFile(d), at, r), at, api.ErrRune)
				refused(t, with(plainFile(d), at+4, r), at+4, api.ErrRune)
				refused(t, with(with(plainFile(d), at, r), at+4, r), at, api.ErrRune)
				refused(t, with(plainFile(d), at, r)[:at+4], at, api.ErrRune)
				refused(t, summed(with(plainFile(d), at+4, r)), at+4, api.ErrRune)
			}
			refused(t, summed(with(plainFile(d), at, 0xd800)), at, api.ErrRune)
			refused(t, summed(with(plainFile(d), at+4, 0xdfff)), at, api.ErrRune)
		}
	}
}

func TestLoadOfIdsAtTheEnd(t *testing.T) {
	d := known()
	f := plainFile(d)
	for rank := range d.Merges {
		left := mergeAt(d, rank)
		right, id := left+4, left+8
		for _, n := range []uint32{1 << 31, 1<<31 + 1, 1<<31 + 256, 1<<32 - 1} {
			for _, at := range []int{left, right, id} {
				refused(t, with(f, at, n), at, api.ErrId)
				refused(t, with(f, at, n)[:at+4], at, api.ErrId)
				refused(t, summed(with(f, at, n)), at, api.ErrId)
			}
			refused(t, with(with(f, id, n), right, n), right, api.ErrId)
		}
		refused(t, summed(with(f, left, 1<<31-1)), left, api.ErrPart)
		refused(t, summed(with(f, right, 1<<31-1)), left, api.ErrPart)
		refused(t, summed(with(f, id, 1<<31-1)), left, api.ErrId)
	}
}

func TestLoadOfTails(t *testing.T) {
	for d := range rightOnes {
		f := plainFile(d)
		for _, tail := range [][]byte{{0}, {1}, {0, 0, 0, 0}, f, []byte("BPE1"), make([]byte, 1<<16)} {
			refused(t, slices.Concat(f, tail), len(f), api.ErrTail)
			// Its own sum doesn't make the tail a part of the file, nor is the sum ahead asked.
			refused(t, plainSum(slices.Concat(f, tail)), len(f), api.ErrTail)
			refused(t, slices.Concat(with(f, len(f)-4, 0), tail), len(f), api.ErrTail)
		}
	}
}

func TestLoadOfWrongSums(t *testing.T) {
	for d := range smallOnes {
		f := plainFile(d)
		at := len(f) - 4
		sum := binary.BigEndian.Uint32(f[at:])
		for bit := range 32 {
			refused(t, with(f, at, sum^1<<bit), at, api.ErrSum)
		}
		for _, n := range []uint32{0, ^sum, sum + 1, 1<<32 - 1, binary.LittleEndian.Uint32(f[at:]), crc32.ChecksumIEEE(f), crc32.ChecksumIEEE(f[4:at])} {
			refused(t, with(f, at, n), at, api.ErrSum)
		}
	}
}

// wrongOnes are ways in which the known model isn't right any more that a reading doesn't meet: in each row that they tell.
var wrongOnes = []struct {
	want  model.Fault
	spoil func(d *api.Data)
}{
	{model.Fault{Why: api.ErrOrder, List: 1, Row: 0}, func(d *api.Data) { d.Letters[0] = span('z', 'a') }},
	{model.Fault{Why: api.ErrOrder, List: 1, Row: 1}, func(d *api.Data) { d.Letters[1].Lo = 'z' }},
	{model.Fault{Why: api.ErrRune, List: 1, Row: 1}, func(d *api.Data) { d.Letters[1] = span(0xd800, 0xe000) }},
	{model.Fault{Why: api.ErrRune, List: 2, Row: 0}, func(d *api.Data) { d.Numbers[0] = span('0', 0xdfff) }},
	{model.Fault{Why: api.ErrOrder, List: 2, Row: 1}, func(d *api.Data) { d.Numbers = append(d.Numbers, span('9', '9')) }},
	{model.Fault{Why: api.ErrOver, List: 2, Row: 1}, func(d *api.Data) { d.Numbers = append(d.Numbers, span('z', 'z')) }},
	{model.Fault{Why: api.ErrRune, List: 3, Row: 0}, func(d *api.Data) { d.Spaces = []api.Span{span(0xdc00, 10), span(32, 32)} }},
	{model.Fault{Why: api.ErrOrder, List: 3, Row: 1}, func(d *api.Data) { d.Spaces = []api.Span{span(9, 10), span(32, 31)} }},
	{model.Fault{Why: api.ErrOver, List: 3, Row: 2}, func(d *api.Data) { d.Spaces = append(d.Spaces, span(33, '0')) }},
	{model.Fault{Why: api.ErrOver, List: 3, Row: 3}, func(d *api.Data) { d.Spaces = append(d.Spaces, span(33, 33), span(0xe9, 0xe9)) }},
	{model.Fault{Why: api.ErrBlank, List: 3}, func(d *api.Data) { d.Spaces = []api.Span{span(9, 10)} }},
	{model.Fault{Why: api.ErrBlank, List: 3}, func(d *api.Data) { d.Spaces = nil }},
	{model.Fault{Why: api.ErrBlank, List: 3}, func(d *api.Data) { d.Spaces = []api.Span{span(9, 10), span(32, 39)} }},
	{model.Fault{Why: api.ErrBlank, List: 3}, func(d *api.Data) { d.Numbers = append([]api.Span{span(39, 39)}, d.Numbers...) }},
	{inWords(api.ErrTwice, 1), func(d *api.Data) { d.Words[1] = d.Words[0] }},
	{inWords(api.ErrTwice, 3), func(d *api.Data) { d.Words[3] = d.Words[2] }},
	{inMerges(api.ErrBytes, 0), func(d *api.Data) { d.Merges[0].Right = 'c' }},
	{inMerges(api.ErrPart, 1), func(d *api.Data) { d.Merges[1].Left = 259 }},
	{inMerges(api.ErrId, 2), func(d *api.Data) { d.Merges[2].Id = 256 }},
	{inMerges(api.ErrPart, 3), func(d *api.Data) { d.Merges[3].Right = 257 }},
	{inMerges(api.ErrId, 3), func(d *api.Data) { d.Merges[3].Id = 'x' }},
	{inMerges(api.ErrId, 3), func(d *api.Data) { d.Merges[3].Id = 260 }},
	{inMerges(api.ErrBytes, 3), func(d *api.Data) { d.Words[1] = "abcdf" }},
}

// inWords is a refusal of a row of the words.
func inWords(why api.Errno, row int) model.Fault {
	return model.Fault{Why: why, List: model.Words, Row: row}
}

// inMerges is a refusal of a merge.
func inMerges(why api.Errno, rank int) model.Fault {
	return model.Fault{Why: why, List: model.Merges, Row: rank}
}

func TestLoadOfWrongModels(t *testing.T) {
	for _, c := range wrongOnes {
		d := known()
		c.spoil(&d)
		if _, f := model.New(d); f != c.want {
			t.Errorf("New(%s): %+v, want %+v", told(d), f, c.want)
		}
		f := plainFile(d)
		refused(t, f, plainPlace(d, c.want), c.want.Why)
		// What a reading meets goes ahead of it.
		refused(t, with(f, len(f)-4, 0), len(f)-4, api.ErrSum)
		refused(t, append(f, 0), len(f), api.ErrTail)
		refused(t, f[:len(f)-1], len(f)-1, api.ErrShort)
		for _, other := range wrongOnes {
			both := copied(d)
			other.spoil(&both)
			if ok, _ := like(t, plainFile(both)); ok {
				t.Errorf("%s is taken", told(both))
			}
		}
	}
}

// The place of the number of spaces is told where there are none, whatever stands ahead of it.
func TestLoadOfNoSpaces(t *testing.T) {
	refused(t, plainFile(api.Data{}), 16, api.ErrBlank)
	refused(t, plainFile(api.Data{Letters: []api.Span{span('a', 'z')}}), 24, api.ErrBlank)
	refused(t, plainFile(api.Data{Letters: []api.Span{span('a', 'z')}, Numbers: []api.Span{span('0', '9')}}), 32, api.ErrBlank)
	refused(t, plainFile(api.Data{Spaces: []api.Span{span(9, 10)}}), 20, api.ErrBlank)
	refused(t, plainFile(api.Data{Spaces: []api.Span{span(9, 10), span(33, 33)}}), 20, api.ErrBlank)
	refused(t, plainFile(api.Data{Letters: []api.Span{span(39, 39)}, Spaces: []api.Span{span(32, 32)}}), 28, api.ErrBlank)
	d := known()
	d.Spaces = nil
	refused(t, plainFile(d), len(plainFile(d))-8, api.ErrBlank)
}

// metOnes are refusals that a reading of the known model's file meets, in their order; none but the last ones changes the file's length.
var metOnes = []struct {
	why   api.Errno
	at    func(d api.Data) int
	spoil func(f []byte, at int) []byte
}{
	{api.ErrMagic, func(api.Data) int { return 1 }, func(f []byte, at int) []byte { f[at] = 'X'; return f }},
	{api.ErrMagic, func(api.Data) int { return 3 }, func(f []byte, at int) []byte { f[at] = '2'; return f }},
	{api.ErrMany, func(api.Data) int { return 4 }, numbered(api.MaxMerges + 1)},
	{api.ErrWord, func(d api.Data) int { return wordAt(d, 0) }, numbered(1)},
	{api.ErrWord, func(d api.Data) int { return wordAt(d, 3) }, numbered(api.MaxWord + 1)},
	{api.ErrId, func(d api.Data) int { return mergeAt(d, 0) + 8 }, numbered(1 << 31)},
	{api.ErrId, func(d api.Data) int { return mergeAt(d, 3) }, numbered(1 << 31)},
	{api.ErrId, func(d api.Data) int { return mergeAt(d, 3) + 4 }, numbered(1<<32 - 1)},
	{api.ErrMany, func(d api.Data) int { return spanAt(d, 1, 0) - 4 }, numbered(api.MaxSpans + 1)},
	{api.ErrRune, func(d api.Data) int { return spanAt(d, 1, 0) + 4 }, numbered(0x110000)},
	{api.ErrRune, func(d api.Data) int { return spanAt(d, 1, 1) }, numbered(1 << 31)},
	{api.ErrMany, func(d api.Data) int { return spanAt(d, 2, 0) - 4 }, numbered(1<<32 - 1)},
	{api.ErrRune, func(d api.Data) int { return spanAt(d, 2, 0) }, numbered(0x110000)},
	{api.ErrMany, func(d api.Data) int { return spanAt(d, 3, 0) - 4 }, numbered(api.MaxSpans + 1)},
	{api.ErrRune, func(d api.Data) int { return spanAt(d, 3, 1) + 4 }, numbered(0x110000)},
	{api.ErrTail, func(d api.Data) int { return len(plainFile(d)) }, func(f []byte, at int) []byte { return append(f, 0) }},
	{api.ErrSum, func(d api.Data) int { return len(plainFile(d)) - 4 }, func(f []byte, at int) []byte { f[at]++; return f }},
	{api.ErrPart, func(d api.Data) int { return mergeAt(d, 2) }, numbered(260)},
}

// numbered lays a number at the place.
func numbered(n uint32) func(f []byte, at int) []byte {
	return func(f []byte, at int) []byte { return with(f, at, n) }
}

// Of two refusals that apply at once the first one that is met is told; of those behind the end of a file that is cut off, none.
func TestLoadAsksFromTheLeft(t *testing.T) {
	d := known()
	for i, first := range metOnes {
		at := first.at(d)
		f := first.spoil(plainFile(d), at)
		if first.why == api.ErrPart {
			f = summed(f)
		}
		refused(t, f, at, first.why)
		for _, second := range metOnes[i+1:] {
			refused(t, second.spoil(bytes.Clone(f), second.at(d)), at, first.why)
		}
		refused(t, append(f, make([]byte, api.MaxFile)...), 0, api.ErrLong)
		for n := 4; n < len(plainFile(d)); n++ {
			_, no := like(t, f[:n])
			met := first.why == api.ErrMagic || n >= at+4 && first.why != api.ErrPart
			if met && no != (file.Refusal{At: at, Why: first.why}) || !met && no != (file.Refusal{At: n, Why: api.ErrShort}) {
				t.Errorf("%v at %d, cut off at %d: %+v", first.why, at, n, no)
			}
		}
	}
}

// P6.3 (W7)

func TestThereAndBack(t *testing.T) {
	for d := range rightOnes {
		f := file.Save(made(t, d))
		if len(f) > api.MaxFile {
			t.Fatalf("%s: a file of %d bytes", told(d), len(f))
		}
		m, err := file.Load(f)
		if err != nil || !same(m.Data(), d) {
			t.Fatalf("%s: %v", told(d), err)
		}
		if again := file.Save(m); !bytes.Equal(again, f) {
			t.Errorf("%s: saved again: %s, was %s", told(d), told(again), told(f))
		}
		w, _ := model.New(d)
		for id := -1; id <= w.Size(); id++ {
			got, isWord := m.Word(id)
			if want, ok := w.Word(id); got != want || ok != isWord {
				t.Fatalf("%s: Word(%d): %q, %v", told(d), id, got, isWord)
			}
		}
		for rank, x := range d.Merges {
			if got, id, ok := m.Merge(x.Left, x.Right); got != rank || id != x.Id || !ok {
				t.Fatalf("%s: Merge(%d, %d): %d, %d, %v", told(d), x.Left, x.Right, got, id, ok)
			}
		}
	}
}

func TestLoadOfEachBitTurned(t *testing.T) {
	for d := range smallOnes {
		f := plainFile(d)
		for i := range f {
			for bit := range 8 {
				g := bytes.Clone(f)
				g[i] ^= 1 << bit
				if ok, _ := like(t, g); ok {
					t.Errorf("%s: byte %d, bit %d turned is taken", told(d), i, bit)
				}
			}
		}
	}
	r := rand.New(rand.NewSource(2))
	for _, d := range []api.Data{pairs(api.MaxMerges), greatest()} {
		f := plainFile(d)
		for range 60 {
			i, bit := r.Intn(len(f)), r.Intn(8)
			f[i] ^= 1 << bit
			if ok, _ := like(t, f); ok {
				t.Errorf("%s: byte %d, bit %d turned is taken", told(d), i, bit)
			}
			f[i] ^= 1 << bit
		}
	}
}

// spoilt answers f with something changed, and perhaps its sum set right.
func spoilt(r *rand.Rand, f []byte) []byte {
	numbers := []uint32{0, 1, 2, 3, 31, 32, 33, 39, 97, 255, 256, 257, 258, 259, 260, 512, 513, 4096, 4097, 0xd800, 0xdfff, 0x10ffff, 0x110000, 1<<31 - 1, 1 << 31, 1<<32 - 1}
	g := bytes.Clone(f)
	for range 1 + r.Intn(2) {
		at := r.Intn(len(g))
		switch r.Intn(6) {
		case 0:
			g[at] = byte(r.Intn(256))
		case 1:
			g[at]++
		case 2, 3:
			if at = at &^ 3; at+4 <= len(g) {
				g = with(g, at, numbers[r.Intn(len(numbers))])
			}
		case 4:
			g = slices.Insert(g, at, f[:r.Intn(min(16, len(f)))]...)
		case 5:
			g = slices.Delete(g, at, min(len(g), at+1+r.Intn(12)))
		}
	}
	if len(g) >= 4 && r.Intn(4) > 0 {
		g = summed(g)
	}
	return g
}

// What Load takes is what Save writes of it; what it doesn't is refused as the chapter says.
func TestLoadOfManyFiles(t *testing.T) {
	r := rand.New(rand.NewSource(3))
	seen := map[api.Errno]int{}
	for range 60000 {
		d := known()
		switch r.Intn(4) {
		case 0, 1:
			d = someRight(r, r.Intn(6))
		case 2:
			wrongOnes[r.Intn(len(wrongOnes))].spoil(&d)
		}
		f := plainFile(d)
		if r.Intn(8) > 0 {
			f = spoilt(r, f)
		}
		ok, no := like(t, f)
		seen[no.Why]++
		if !ok {
			continue
		}
		m, _ := file.Load(f)
		if again := file.Save(m); !bytes.Equal(again, f) {
			t.Fatalf("saved again: %v, was %v", again, f)
		}
	}
	for _, why := range []api.Errno{
		api.OK, api.ErrMagic, api.ErrShort, api.ErrMany, api.ErrWord, api.ErrRune, api.ErrId, api.ErrTail, api.ErrSum,
		api.ErrOrder, api.ErrOver, api.ErrBlank, api.ErrTwice, api.ErrPart, api.ErrBytes,
	} {
		if seen[why] < 40 {
			t.Errorf("only %d of %v were tried", seen[why], why)
		}
	}
}
