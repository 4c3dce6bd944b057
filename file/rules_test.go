package file_test

import (
	"bytes"
	"errors"
	"fmt"
	"math/rand"
	"runtime"
	"slices"
	"strings"
	"sync"
	"testing"

	"tessera/api"
	"tessera/file"
)

// someBytes hands out bytes of all sorts: none, files, parts of files, what begins like one, and what doesn't.
func someBytes(yield func([]byte) bool) {
	l := [][]byte{nil, {}, []byte("BPE1"), []byte("merge \"a\" + \"b\" = 256\n"), make([]byte, 1<<16), bytes.Repeat([]byte{0xff}, 1<<16)}
	for _, n := range []int{0, 1, 12, 16, 17, 1 << 16, api.MaxFile - 4, api.MaxFile - 3} {
		l = append(l, append([]byte("BPE1"), make([]byte, n)...))
	}
	for d := range rightOnes {
		f := plainFile(d)
		l = append(l, f, f[1:], f[4:], append([]byte{0}, f...), append([]byte("BPE1"), f...), slices.Concat(f, f), with(f, 4, api.MaxMerges), f[:len(f)/2], with(f, len(f)-4, 0))
	}
	for _, c := range wrongOnes {
		d := known()
		c.spoil(&d)
		l = append(l, plainFile(d))
	}
	r := rand.New(rand.NewSource(4))
	for range 2000 {
		b := make([]byte, r.Intn(60))
		for i := range b {
			b[i] = byte(r.Intn(3) * r.Intn(2) * r.Intn(128))
		}
		l = append(l, b, append([]byte("BPE1"), b...), plainSum(append([]byte("BPE1"), b...)))
	}
	for _, f := range l {
		if !yield(f) {
			return
		}
	}
}

// R1, R3, R8: whatever bytes are given, Load ends, and answers either a model or a refusal of the chapter, at one of the bytes or behind them.
func TestLoadOfWhateverBytes(t *testing.T) {
	for f := range someBytes {
		like(t, f)
		m, err := file.Load(f)
		if (m != nil) != (err == nil) {
			t.Fatalf("Load(%s): %v, %v", told(f), m != nil, err)
		}
		if err == nil {
			continue
		}
		no, ok := err.(*file.Refusal)
		if !ok || no == nil || no.At < 0 || no.At > len(f) || no.Why == api.OK || no.Error() == "" {
			t.Fatalf("Load(%s): %+v", told(f), err)
		}
	}
}

// R8: a refusal wraps one number, which errors.Is and errors.As find, and no other one; wrapped, errors.As finds it.
func TestRefusalsWrapOneNumber(t *testing.T) {
	for f := range someBytes {
		_, err := file.Load(f)
		if err == nil {
			continue
		}
		var no *file.Refusal
		var why api.Errno
		for _, e := range []error{err, fmt.Errorf("of a file: %w", err), errors.Join(errors.New("of a file"), err)} {
			no, why = nil, api.OK
			if !errors.As(e, &no) || !errors.As(e, &why) || why != no.Why || no != err || !errors.Is(e, err) {
				t.Fatalf("%v: %+v, %v", e, no, why)
			}
			for n := api.Errno(-2); n < 60; n++ {
				if errors.Is(e, n) != (n == no.Why) {
					t.Fatalf("%+v is %d: %v", no, n, n != no.Why)
				}
			}
		}
		if errors.Unwrap(err) != error(no.Why) {
			t.Fatalf("%+v unwrapped: %v", no, errors.Unwrap(err))
		}
	}
}

// R7: no error's text is empty; it tells the place.
func TestTextsOfRefusals(t *testing.T) {
	for _, c := range []struct {
		f  []byte
		at string
	}{
		{nil, "0"}, {[]byte("BPX1"), "2"}, {[]byte("BPE1"), "4"}, {append(plainFile(of(nil)), 0), "32"},
		{with(plainFile(of(nil)), 28, 0), "28"}, {plainFile(api.Data{}), "16"}, {make([]byte, api.MaxFile+1), "0"},
	} {
		if _, err := file.Load(c.f); err == nil || !strings.Contains(err.Error(), c.at) {
			t.Errorf("Load(%s): %v", told(c.f), err)
		}
	}
	for n := api.Errno(-2); n < 60; n++ {
		if (&file.Refusal{At: 7, Why: n}).Error() == "" {
			t.Errorf("the text of %d is empty", n)
		}
	}
}

// roomy answers f with spare room behind it, in which a file could go on.
func roomy(f []byte) []byte {
	big := slices.Concat(f, plainFile(known()), make([]byte, 64))
	return big[:len(f)]
}

// R2, R5: the bytes that are handed in stay as they were, their spare room too, which isn't read.
func TestBytesStayAsTheyWere(t *testing.T) {
	for f := range someBytes {
		in := roomy(f)
		before := bytes.Clone(in[:cap(in)])
		if ok, _ := like(t, in); ok {
			m, _ := file.Load(in)
			file.Save(m)
		}
		if !bytes.Equal(in[:cap(in)], before) {
			t.Fatalf("Load(%s) changed the bytes", told(f))
		}
	}
	f := plainFile(known())
	for n := range f {
		if ok, no := like(t, f[:n]); ok || no.At > n {
			t.Errorf("cut off at %d, with all behind: %+v", n, no)
		}
	}
}

// R2: a model keeps nothing of the bytes: written over behind Load, it says what it said.
func TestModelsKeepNoBytes(t *testing.T) {
	for d := range rightOnes {
		in := roomy(plainFile(d))
		m, err := file.Load(in)
		if err != nil {
			t.Fatal(err)
		}
		for i := range in[:cap(in)] {
			in[:cap(in)][i] = 0xa5
		}
		if !same(m.Data(), d) {
			t.Errorf("%s, was %s", told(m.Data()), told(d))
		}
		if got := file.Save(m); !bytes.Equal(got, plainFile(d)) {
			t.Errorf("%s: the file went along: %s", told(d), told(got))
		}
	}
}

// R2: a file is new memory each time, its spare room too.
func TestFilesAreNewMemory(t *testing.T) {
	for d := range rightOnes {
		m := made(t, d)
		one, two := file.Save(m), file.Save(m)
		for i := range one[:cap(one)] {
			one[:cap(one)][i] = 0xa5
		}
		if want := plainFile(d); !bytes.Equal(two, want) || !bytes.Equal(file.Save(m), want) || !same(m.Data(), d) {
			t.Errorf("%s: another file or the model went along", told(d))
		}
	}
}

// R2: a refusal is new memory each time.
func TestRefusalsAreNewMemory(t *testing.T) {
	for f := range someBytes {
		_, one := file.Load(f)
		_, two := file.Load(f)
		if one == nil {
			continue
		}
		x, y := one.(*file.Refusal), two.(*file.Refusal)
		if x == y || *x != *y {
			t.Fatalf("Load(%s): %+v, %+v", told(f), x, y)
		}
		want := *y
		*x = file.Refusal{At: -7, Why: api.ErrNone}
		if *y != want {
			t.Fatalf("Load(%s): another refusal went along: %+v", told(f), y)
		}
		checkRefused(t, f, want)
	}
}

// Two loads of one file: two models.
func TestTwoLoadsOfOneFile(t *testing.T) {
	for d := range smallOnes {
		f := plainFile(d)
		one, _ := file.Load(f)
		two, _ := file.Load(f)
		if one == nil || one == two || one.Table() == two.Table() {
			t.Fatalf("%s: %p, %p", told(d), one, two)
		}
	}
}

// R4: a model of nil lists and one of empty lists have one file.
func TestNoListAndAnEmptyOne(t *testing.T) {
	spaces := of(nil).Spaces
	want := plainFile(of(nil))
	for _, d := range []api.Data{
		{Spaces: spaces},
		{Words: []string{}, Merges: []api.Merge{}, Letters: []api.Span{}, Numbers: []api.Span{}, Spaces: spaces},
		{Words: []string{"zz"}[:0], Merges: []api.Merge{join(1, 2, 3)}[:0], Letters: spaces[:0], Numbers: spaces[:0:0], Spaces: spaces},
	} {
		if got := file.Save(made(t, d)); !bytes.Equal(got, want) {
			t.Errorf("%v, want %v", got, want)
		}
	}
}

// R9: several goroutines may save one model, and load one file.
func TestModelsAreSavedTogether(t *testing.T) {
	m, f := made(t, known()), plainFile(known())
	var all sync.WaitGroup
	for range 8 {
		all.Go(func() {
			for range 50 {
				got, err := file.Load(f)
				if err != nil || !same(got.Data(), known()) || !bytes.Equal(file.Save(m), f) {
					t.Error("together they answer otherwise than alone")
				}
			}
		})
	}
	all.Wait()
}

// No call copies all that it has for each number: what is taken of memory grows as the file does.
func TestMemoryOfGreatModels(t *testing.T) {
	for _, d := range []api.Data{greatest(), pairs(api.MaxMerges)} {
		m, f := made(t, d), plainFile(d)
		for name, call := range map[string]func(){
			"Save": func() { file.Save(m) },
			"Load": func() { file.Load(f) },
		} {
			var before, behind runtime.MemStats
			runtime.ReadMemStats(&before)
			call()
			runtime.ReadMemStats(&behind)
			if n := behind.TotalAlloc - before.TotalAlloc; n > uint64(40*len(f)) {
				t.Errorf("%s of a file of %d bytes takes %d bytes", name, len(f), n)
			}
		}
	}
}
