package coder_test

import (
	"bytes"
	"math"
	"slices"
	"testing"

	"tansy/api"
	"tansy/coder"
)

// noText are octets that are no text: too few, others ahead, and the greatest code.
func noText() [][]byte {
	l := [][]byte{
		nil, {}, {0, 255, 255, 255, 255}, {0, 255, 255, 255, 255, 0}, {0, 255, 255, 255, 255, 255, 255, 255},
		append([]byte{0, 255, 255, 255, 255}, make([]byte, 99)...),
	}
	for n := range 5 {
		l = append(l, make([]byte, n), bytes.Repeat([]byte{255}, n), octets(1, n)[:n])
	}
	for first := 1; first < 256; first++ {
		l = append(l, []byte{byte(first), 0, 0, 0, 0}, append([]byte{byte(first)}, octets(first, 30)...))
	}
	return l
}

// P6.2: of all texts there is a reader, behind five octets; any code but the greatest one may be, and any number of chances up to MaxPlaces.
func TestNewReader(t *testing.T) {
	texts := [][]byte{
		{0, 0, 0, 0, 0}, {0, 255, 255, 255, 254}, {0, 254, 255, 255, 255}, {0, 255, 254, 255, 255}, {0, 255, 255, 254, 255},
		{0, 127, 255, 255, 255}, {0, 255, 255, 255, 254, 255}, {0, 0, 0, 0, 0, 0}, make([]byte, 1<<18),
	}
	for seed := range 30 {
		texts = append(texts, octets(seed, 4+seed))
	}
	for _, b := range texts {
		for _, n := range []int{0, 1, 2, 528, 1023, 1024} {
			r, e := coder.NewReader(n, b)
			if r == nil || e != api.OK || r.Used() != 5 {
				t.Errorf("%d, %d octets: got %d, %d", n, len(b), r.Used(), e)
			}
		}
	}
}

// P6.2: of what is no text there is none; chances that there may not be come ahead of that.
func TestNewReaderWrong(t *testing.T) {
	for _, b := range noText() {
		for _, n := range []int{0, 1, 528, 1024} {
			if r, e := coder.NewReader(n, b); r != nil || e != api.ErrForm {
				t.Errorf("%d, %v: got %v, %d", n, b, r, e)
			}
		}
	}
	for _, b := range append(noText(), make([]byte, 5), octets(2, 40)) {
		for _, n := range wrong() {
			if r, e := coder.NewReader(n, b); r != nil || e != api.ErrArg {
				t.Errorf("%d, %v: got %v, %d", n, b, r, e)
			}
		}
	}
}

// P6.2: a reader reads as the words say, to its text's end and on behind it, places at which there is no chance in between.
func TestNext(t *testing.T) {
	for seed, n := range []int{1, 2, 3, 4, 16, 256, 528, 1024} {
		for long := 4; long < 60; long++ {
			b := octets(seed, long)
			tryReader(t, n, b, 9*long)
			tryReader(t, n, append(b, make([]byte, long)...), 18*long)
			tryReader(t, n, append(b, bytes.Repeat([]byte{255}, long)...), 18*long)
		}
		tryReader(t, n, make([]byte, 40), 1500)
		tryReader(t, n, append([]byte{0, 255, 255, 255, 254}, bytes.Repeat([]byte{255}, 40)...), 1500)
		tryReader(t, n, octets(seed, 3000), 30000)
	}
}

func tryReader(t *testing.T, n int, b []byte, k int) {
	t.Helper()
	x, r, m := random(k, n), reader(t, n, b), newModel(n, b)
	for i := range k {
		at := x.IntN(n)
		if i%11 == 10 {
			at = outside(n)[x.IntN(len(outside(n)))]
		}
		bit, e := r.Next(at)
		want, f := m.next(at)
		if bit != want || e != f || r.Used() != m.used {
			t.Fatalf("%d, %d octets, bit %d at %d: got %v, %d, %d used, want %v, %d, %d used", n, len(b), i, at, bit, e, r.Used(), want, f, m.used)
		}
	}
}

// P6.2: a reader that is none is ErrArg, wherever the bit is, and has read nothing.
func TestNoReader(t *testing.T) {
	var r *coder.Reader
	for _, at := range append(outside(0), outside(1024)...) {
		if b, e := r.Next(at); b || e != api.ErrArg || r.Used() != 0 {
			t.Errorf("%d: got %v, %d, %d used", at, b, e, r.Used())
		}
	}
}

// R1: a reader of nothing at all has no chance, and has read nothing.
func TestZeroReader(t *testing.T) {
	var r coder.Reader
	for _, at := range append(outside(0), outside(1024)...) {
		if b, e := r.Next(at); b || e != api.ErrNone || r.Used() != 0 {
			t.Errorf("%d: got %v, %d, %d used", at, b, e, r.Used())
		}
	}
}

// P6.2: a place at which there is no chance is ErrNone, at any time, and leaves the reader as it was.
func TestNextNone(t *testing.T) {
	for _, n := range []int{0, 1, 2, 528, 1023, 1024} {
		for _, at := range outside(n) {
			if b, e := reader(t, n, make([]byte, 9)).Next(at); b || e != api.ErrNone {
				t.Errorf("%d of %d: got %v, %d", at, n, b, e)
			}
		}
	}
	l := bits(3, 400, 5, 4)
	r := reader(t, 5, encode(t, 5, l))
	for i, b := range l {
		for _, at := range outside(5) {
			used := r.Used()
			if got, e := r.Next(at); got || e != api.ErrNone || r.Used() != used {
				t.Fatalf("%d: got %v, %d", at, got, e)
			}
		}
		if got, e := r.Next(b.At); got != b.B || e != api.OK {
			t.Fatalf("bit %d: got %v, %d, want %v", i, got, e, b.B)
		}
	}
	for _, at := range outside(5) {
		for range 300 {
			r.Next(0)
		}
		if got, e := r.Next(at); got || e != api.ErrNone {
			t.Errorf("%d, behind the end: got %v, %d", at, got, e)
		}
	}
}

// P6.2: where an octet is needed, and there is none, is ErrForm, and the reader is as it was: asked again, it answers the same, and a bit that needs no octet still comes.
func TestNextShort(t *testing.T) {
	b := make([]byte, 9)
	r, m, came := reader(t, 2, b), newModel(2, b), 0
	for range 1000 {
		bit, e := r.Next(0)
		want, f := m.next(0)
		if bit != want || e != f || r.Used() != m.used {
			t.Fatalf("got %v, %d, %d used, want %v, %d, %d used", bit, e, r.Used(), want, f, m.used)
		}
		if m.used < 9 {
			continue
		}
		for m.span < 1<<25 {
			for range 3 {
				if bit, e := r.Next(1); bit || e != api.ErrForm || r.Used() != 9 {
					t.Fatalf("got %v, %d, %d used", bit, e, r.Used())
				}
			}
			bit, e := r.Next(0)
			if want, f := m.next(0); bit != want || e != f || f != api.OK {
				break
			}
			came++
		}
	}
	if came < 20 {
		t.Errorf("just %d bits came behind an octet that was not there", came)
	}
}

// P6.2: Used is more by one for each octet that was needed, never more than there are.
func TestUsed(t *testing.T) {
	l := bits(4, 3000, 9, 3)
	b := encode(t, 9, l)
	r := reader(t, 9, b)
	for i, bit := range l {
		if got, e := r.Next(bit.At); got != bit.B || e != api.OK {
			t.Fatalf("bit %d: got %v, %d", i, got, e)
		}
		if want := len(great(9, l[:i+1])); i%50 == 0 && r.Used() != want {
			t.Fatalf("bit %d: %d used, want %d", i, r.Used(), want)
		}
	}
	for range 500 {
		r.Next(0)
	}
	if r.Used() != len(b) {
		t.Errorf("%d used, want %d", r.Used(), len(b))
	}
}

// R1: every call ends, and none panics, at all arguments.
func TestAnything(t *testing.T) {
	for seed := range 3000 {
		x := random(seed, 6)
		n, b := x.IntN(1030)-3, octets(seed, x.IntN(20))[x.IntN(2):]
		at := []int{x.IntN(1030) - 3, x.IntN(4), int(x.Uint64()), math.MinInt}
		if text, e := coder.Encode(n, []api.Bit{{At: at[0]}, {At: at[1], B: true}}); (e == api.OK) == (len(text) == 0) {
			t.Errorf("%d, %v: got %v, %d", n, at, text, e)
		}
		if l, used, e := coder.Decode(n, b, at); e == api.OK || len(l) != 0 || used != 0 {
			t.Errorf("%d, %v, %v: got %v, %d, %d", n, b, at, l, used, e)
		}
		r, e := coder.NewReader(n, b)
		if (e == api.OK) != (r != nil) {
			t.Errorf("%d, %v: got %v, %d", n, b, r, e)
		}
		for _, a := range slices.Repeat(at, 9) {
			if bit, e := r.Next(a); bit && e != api.OK || r.Used() > len(b) {
				t.Errorf("%d, %v, %d: got %v, %d, %d used", n, b, a, bit, e, r.Used())
			}
		}
	}
}
