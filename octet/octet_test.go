package octet_test

import (
	"bytes"
	"math"
	"math/rand"
	"strings"
	"testing"

	"tessera/api"
	"tessera/octet"
)

// edges are numbers at which a byte, a sign or a width turns over.
func edges() []uint32 {
	return []uint32{
		0, 1, 127, 128, 255, 256, 258, 0x7fff, 0x8000, 0xffff, 0x10000, 0xffffff, 0x1000000,
		0x01020304, 0xfffefdfc, 1<<31 - 1, 1 << 31, 1<<32 - 2, 1<<32 - 1,
	}
}

// roomy answers l with spare room behind its length, filled with a mark.
func roomy(l ...byte) []byte {
	b := bytes.Repeat([]byte{0xa5}, len(l)+64)
	copy(b, l)
	return b[:len(l)]
}

// whole answers all that b has room for, the spare room too.
func whole(b []byte) []byte { return b[:cap(b)] }

func fill(b []byte, c byte) {
	for i := range b {
		b[i] = c
	}
}

// P1.1

func TestPutLaysHighestFirst(t *testing.T) {
	for _, c := range []struct {
		b    []byte
		n    uint32
		want []byte
	}{
		{nil, 258, []byte{0, 0, 1, 2}},
		{[]byte{}, 0, []byte{0, 0, 0, 0}},
		{[]byte{9}, 0x01020304, []byte{9, 1, 2, 3, 4}},
		{[]byte{9, 8, 7, 6, 5}, 0xfffefdfc, []byte{9, 8, 7, 6, 5, 255, 254, 253, 252}},
		{roomy(9, 8), 1<<32 - 1, []byte{9, 8, 255, 255, 255, 255}},
		{roomy(), 1 << 31, []byte{128, 0, 0, 0}},
	} {
		if got := octet.Put(c.b, c.n); !bytes.Equal(got, c.want) {
			t.Errorf("Put(%v, %#x): %v, want %v", c.b, c.n, got, c.want)
		}
	}
}

func TestPutTextLaysLengthAndBytes(t *testing.T) {
	long := strings.Repeat("x", 258)
	for _, c := range []struct {
		b    []byte
		s    string
		want []byte
	}{
		{nil, "ab", []byte{0, 0, 0, 2, 'a', 'b'}},
		{nil, "", []byte{0, 0, 0, 0}},
		{[]byte{7}, "", []byte{7, 0, 0, 0, 0}},
		{[]byte{7}, "\x00\xff\xe2\x82", []byte{7, 0, 0, 0, 4, 0, 255, 0xe2, 0x82}},
		{roomy(7), "\u20ac", []byte{7, 0, 0, 0, 3, 0xe2, 0x82, 0xac}},
		{nil, long, append([]byte{0, 0, 1, 2}, long...)},
	} {
		if got := octet.PutText(c.b, c.s); !bytes.Equal(got, c.want) {
			t.Errorf("PutText(%v, %q): %v, want %v", c.b, c.s, got, c.want)
		}
	}
}

// R2 of Put and PutText: all that was handed in stays, and all that is answered is new.
func TestPutsShareNoMemory(t *testing.T) {
	for name, put := range map[string]func(b []byte) []byte{
		"Put":           func(b []byte) []byte { return octet.Put(b, 0x01020304) },
		"PutText":       func(b []byte) []byte { return octet.PutText(b, "abc") },
		"PutText of ''": func(b []byte) []byte { return octet.PutText(b, "") },
	} {
		for _, b := range [][]byte{roomy(), roomy(1), roomy(1, 2, 3, 4, 5), {1, 2, 3}, {}} {
			before := bytes.Clone(whole(b))
			one := put(b)
			if !bytes.Equal(whole(b), before) {
				t.Errorf("%s wrote into what it was given: %v, was %v", name, whole(b), before)
			}
			want := bytes.Clone(one)
			two := put(b)
			fill(whole(two), 0xee)
			if !bytes.Equal(whole(b), before) {
				t.Errorf("%s: the answer lies in what was given: %v, was %v", name, whole(b), before)
			}
			fill(whole(b), 0xdd)
			if !bytes.Equal(one, want) {
				t.Errorf("%s: the answer went along with others' bytes: %v, was %v", name, one, want)
			}
		}
	}
}

// P1.2

func TestGet(t *testing.T) {
	four := []byte{0, 0, 1, 2}
	seven := []byte{9, 9, 0xff, 0xfe, 0xfd, 0xfc, 9}
	for _, c := range []struct {
		b      []byte
		at     int
		n      uint32
		behind int
		why    api.Errno
	}{
		{four, 0, 258, 4, api.OK},
		{seven, 2, 0xfffefdfc, 6, api.OK},
		{seven, 3, 0xfefdfc09, 7, api.OK},
		{seven, 4, 0, 0, api.ErrShort},
		{four, 1, 0, 0, api.ErrShort},
		{four, 3, 0, 0, api.ErrShort},
		{four, 4, 0, 0, api.ErrShort},
		{four, 5, 0, 0, api.ErrArg},
		{four, -1, 0, 0, api.ErrArg},
		{four, math.MaxInt, 0, 0, api.ErrArg},
		{four, math.MaxInt - 3, 0, 0, api.ErrArg},
		{four, math.MinInt, 0, 0, api.ErrArg},
		{nil, 0, 0, 0, api.ErrShort},
		{[]byte{}, 0, 0, 0, api.ErrShort},
		{nil, 1, 0, 0, api.ErrArg},
		{nil, -1, 0, 0, api.ErrArg},
		{four[:3], 0, 0, 0, api.ErrShort},
		{roomy(1, 2), 0, 0, 0, api.ErrShort},
		{roomy(1, 2), 2, 0, 0, api.ErrShort},
		{roomy(1, 2), 3, 0, 0, api.ErrArg},
	} {
		n, behind, why := octet.Get(c.b, c.at)
		if n != c.n || behind != c.behind || why != c.why {
			t.Errorf("Get(%v, %d): %#x, %d, %v, want %#x, %d, %v", c.b, c.at, n, behind, why, c.n, c.behind, c.why)
		}
	}
}

// P1.3

func TestGetText(t *testing.T) {
	ab := []byte{0, 0, 0, 2, 'a', 'b'}
	amid := []byte{9, 9, 0, 0, 0, 3, 0xe2, 0x82, 0xac, 9}
	huge := []byte{255, 255, 255, 255, 'a'}
	for _, c := range []struct {
		b        []byte
		at, most int
		s        string
		behind   int
		why      api.Errno
	}{
		{ab, 0, 9, "ab", 6, api.OK},
		{ab, 0, 2, "ab", 6, api.OK},
		{ab, 0, math.MaxInt, "ab", 6, api.OK},
		{ab, 0, 1, "", 0, api.ErrLong},
		{ab, 0, 0, "", 0, api.ErrLong},
		{ab, 0, -1, "", 0, api.ErrLong},
		{ab, 0, math.MinInt, "", 0, api.ErrLong},
		{ab[:5], 0, 9, "", 0, api.ErrShort},
		{ab[:4], 0, 9, "", 0, api.ErrShort},
		{ab[:4], 0, 1, "", 0, api.ErrLong},
		{ab[:3], 0, 0, "", 0, api.ErrShort},
		{amid, 2, 3, "\u20ac", 9, api.OK},
		{amid, 2, 2, "", 0, api.ErrLong},
		{amid, 10, 9, "", 0, api.ErrShort},
		{amid, 11, 9, "", 0, api.ErrArg},
		{amid, 11, -1, "", 0, api.ErrArg},
		{amid, -1, 9, "", 0, api.ErrArg},
		{amid, math.MaxInt, math.MaxInt, "", 0, api.ErrArg},
		{amid, math.MinInt, math.MinInt, "", 0, api.ErrArg},
		{[]byte{0, 0, 0, 0}, 0, 0, "", 4, api.OK},
		{[]byte{0, 0, 0, 0}, 0, 9, "", 4, api.OK},
		{[]byte{0, 0, 0, 0}, 0, -1, "", 0, api.ErrLong},
		{[]byte{0, 0, 0, 0}, 4, 9, "", 0, api.ErrShort},
		{huge, 0, math.MaxInt, "", 0, api.ErrShort},
		{huge, 0, math.MaxInt32, "", 0, api.ErrLong},
		{[]byte{128, 0, 0, 0, 'a'}, 0, 9, "", 0, api.ErrLong},
		{nil, 0, 9, "", 0, api.ErrShort},
		{nil, 1, 9, "", 0, api.ErrArg},
		{roomy(0, 0, 0, 1), 0, 9, "", 0, api.ErrShort},
		{roomy(0, 0, 0, 1, 'a'), 0, 9, "a", 5, api.OK},
	} {
		s, behind, why := octet.GetText(c.b, c.at, c.most)
		if s != c.s || behind != c.behind || why != c.why {
			t.Errorf("GetText(%v, %d, %d): %q, %d, %v, want %q, %d, %v", c.b, c.at, c.most, s, behind, why, c.s, c.behind, c.why)
		}
	}
}

// R2 of what reads.
func TestReadingLeavesAndCopies(t *testing.T) {
	b := octet.PutText(roomy(1, 2), "abc")
	before := bytes.Clone(whole(b))
	octet.Get(b, 2)
	octet.Sum(b)
	s, _, _ := octet.GetText(b, 2, 3)
	if !bytes.Equal(whole(b), before) {
		t.Errorf("reading changed the bytes: %v, were %v", whole(b), before)
	}
	if fill(whole(b), 0xee); s != "abc" {
		t.Errorf("the text went along with the bytes: %q", s)
	}
}

// P1.4

func TestSumOfKnownTexts(t *testing.T) {
	for s, want := range map[string]uint32{
		"":          0,
		"a":         0xe8b7be43,
		"123456789": 0xcbf43926,
		"\x00":      0xd202ef8d,
		"\xff":      0xff000000,
		"The quick brown fox jumps over the lazy dog": 0x414fa339,
	} {
		if got := octet.Sum([]byte(s)); got != want {
			t.Errorf("Sum of %q: %#x, want %#x", s, got, want)
		}
	}
	if got := octet.Sum(nil); got != 0 {
		t.Errorf("Sum of nil: %#x", got)
	}
	if got := octet.Sum(roomy('a')); got != 0xe8b7be43 {
		t.Errorf("Sum reads the spare room: %#x", got)
	}
}

// bitwise is P1.4 word by word.
func bitwise(b []byte) uint32 {
	register := uint32(0xffffffff)
	for _, c := range b {
		for bit := range 8 {
			out := register & 1
			register >>= 1
			if out != uint32(c>>bit&1) {
				register ^= 0xedb88320
			}
		}
	}
	return ^register
}

func TestSumIsTheRegister(t *testing.T) {
	for c := range 256 {
		for _, b := range [][]byte{{byte(c)}, {byte(c), 0}, {0, byte(c)}, {255, byte(c), 255, byte(c)}} {
			if got, want := octet.Sum(b), bitwise(b); got != want {
				t.Fatalf("Sum(%v): %#x, want %#x", b, got, want)
			}
		}
	}
	r := rand.New(rand.NewSource(1))
	for n := range 300 {
		b := make([]byte, n)
		r.Read(b)
		if got, want := octet.Sum(b), bitwise(b); got != want {
			t.Fatalf("Sum(%v): %#x, want %#x", b, got, want)
		}
	}
}

// P1.5

func TestGetOfPut(t *testing.T) {
	for _, n := range edges() {
		for ahead := range 6 {
			b := octet.Put(octet.Put(make([]byte, ahead), n), ^n)
			if got, behind, why := octet.Get(b, ahead); got != n || behind != ahead+4 || why != api.OK {
				t.Errorf("%d ahead of %#x: %#x, %d, %v", ahead, n, got, behind, why)
			}
			if got, behind, why := octet.Get(b, ahead+4); got != ^n || behind != len(b) || why != api.OK {
				t.Errorf("behind %#x: %#x, %d, %v", n, got, behind, why)
			}
		}
	}
}

func TestGetTextOfPutText(t *testing.T) {
	long := strings.Repeat("\x00\xffab", 20000)
	for _, s := range []string{"", "a", "\x00", "\xe2\x82", long[:255], long[:256], long[:257], long[:65536], long} {
		b := octet.PutText(octet.PutText([]byte("ahead"), s), "behind")
		got, behind, why := octet.GetText(b, 5, len(s))
		if got != s || behind != 5+4+len(s) || why != api.OK {
			t.Errorf("a text of %d bytes: %d bytes, %d, %v", len(s), len(got), behind, why)
		}
		if next, end, why := octet.GetText(b, behind, 6); next != "behind" || end != len(b) || why != api.OK {
			t.Errorf("behind a text of %d bytes: %q, %d, %v", len(s), next, end, why)
		}
	}
}

// P1.6

// turned answers b with the bits of burst turned from bit first on, each byte's lowest bit counted first.
func turned(b []byte, first int, burst uint32) []byte {
	out := bytes.Clone(b)
	for bit := range 32 {
		if burst>>bit&1 == 1 {
			out[(first+bit)/8] ^= 1 << ((first + bit) % 8)
		}
	}
	return out
}

func TestSumSeesShortBursts(t *testing.T) {
	for _, s := range []string{"12345", "\x00\x00\x00\x00\x00\x00", "\xff\xff\xff\xff\xff"} {
		b := []byte(s)
		sum := octet.Sum(b)
		for burst := uint32(1); burst < 1<<12; burst += 2 {
			for first := range len(b)*8 - 11 {
				if octet.Sum(turned(b, first, burst)) == sum {
					t.Fatalf("%q with %#x turned from bit %d on keeps the sum", b, burst, first)
				}
			}
		}
	}
}

func TestSumSeesBurstsOf32Bits(t *testing.T) {
	r := rand.New(rand.NewSource(2))
	// The polynomial and its like are what a wrong register would be blind to.
	bursts := []uint32{1, 1<<31 | 1, 1<<32 - 1, 0xedb88321, 0x04c11db7, 0x82608edb, 0xdb710641, 0x80000101}
	for range 400 {
		bursts = append(bursts, r.Uint32()|1)
	}
	b := make([]byte, 40)
	r.Read(b)
	sum := octet.Sum(b)
	for _, burst := range bursts {
		for first := range len(b)*8 - 31 {
			if octet.Sum(turned(b, first, burst)) == sum {
				t.Fatalf("%#x turned from bit %d on keeps the sum", burst, first)
			}
		}
	}
}

// R1: whatever is given, each call ends without a panic, and beside a refusal there is nothing (R3).
func TestNoCallPanics(t *testing.T) {
	r := rand.New(rand.NewSource(3))
	numbers := []int{math.MinInt, math.MinInt + 1, -1 << 32, -5, -1, 0, 1, 2, 3, 4, 5, 8, 9, 1 << 31, 1 << 32, math.MaxInt - 4, math.MaxInt}
	for n := range 24 {
		for range 40 {
			b := make([]byte, n)
			for i := range b {
				b[i] = byte(r.Intn(3) * r.Intn(128))
			}
			for _, at := range numbers {
				if v, behind, why := octet.Get(b, at); why != api.OK && (v != 0 || behind != 0) {
					t.Errorf("Get(%v, %d): %d, %d beside %v", b, at, v, behind, why)
				}
				for _, most := range numbers {
					if s, behind, why := octet.GetText(b, at, most); why != api.OK && (s != "" || behind != 0) {
						t.Errorf("GetText(%v, %d, %d): %q, %d beside %v", b, at, most, s, behind, why)
					}
				}
			}
		}
	}
}
