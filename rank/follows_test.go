package rank_test

import (
	"math"
	"testing"

	"tansy/api"
	"tansy/rank"
)

// P12.4: of numbers that are below one another the key is, too, and the other way round; only 0 and -0, which are not, have keys one below the other.
func TestKeyRises(t *testing.T) {
	l := append(all(), byChance(7, 500)...)
	for _, a := range l {
		for _, b := range l {
			if a < b && rank.Key(a) >= rank.Key(b) || a == b && a != 0 && rank.Key(a) != rank.Key(b) {
				t.Fatalf("%x, %x: got %x, %x", a, b, rank.Key(a), rank.Key(b))
			}
		}
	}
}

// P12.4: from each number to the next one there is the next key, from infinity to infinity; so between -0 and 0, and no number's key is between.
func TestKeyOfNext(t *testing.T) {
	for _, f := range append(all(), byChance(8, 20000)...) {
		if f != f || f == math.Inf(1) {
			continue
		}
		next := math.Nextafter(f, math.Inf(1))
		switch {
		case f == 0 && math.Signbit(f):
			next = 0
		case f == -0x1p-1074:
			next = math.Copysign(0, -1)
		}
		if got, want := rank.Key(next), rank.Key(f)+1; got != want {
			t.Fatalf("%x, %x: got %x, want %x", f, next, got, want)
		}
		if got, e := rank.Of(rank.Key(f) + 1); !is(got, next) || e != api.OK {
			t.Fatalf("%x: got %x, %d, want %x", f, got, e, next)
		}
	}
}

// P12.4: -0 is just ahead of 0: nothing is between, and neither is the other.
func TestZeros(t *testing.T) {
	minus := math.Copysign(0, -1)
	if rank.Key(minus)+1 != rank.Key(0) || rank.Cmp(minus, 0) != -1 || rank.Cmp(0, minus) != 1 || rank.Same(0, minus) {
		t.Errorf("got %x, %x", rank.Key(minus), rank.Key(0))
	}
	for _, f := range append(all(), byChance(9, 5000)...) {
		if rank.Cmp(minus, f) < 0 && rank.Cmp(f, 0) < 0 {
			t.Errorf("%x is between", f)
		}
	}
}

// P12.4: what is no number is behind all.
func TestNoneIsBehind(t *testing.T) {
	for _, none := range nones() {
		for _, f := range append(all(), byChance(10, 1000)...) {
			want := 1
			if f != f {
				want = 0
			}
			if got := rank.Cmp(none, f); got != want || rank.Key(none) < rank.Key(f) {
				t.Fatalf("%x, %x: got %d, want %d", math.Float64bits(none), f, got, want)
			}
		}
	}
}

// P12.4: a middle of numbers that are 0, or no smaller than 2^-1000, is not outside of both, whichever is first, and of whatever sign.
func TestMidIsBetween(t *testing.T) {
	var l []float64
	for _, f := range append(rising(), byChance(11, 1500)...) {
		if f == 0 || math.Abs(f) >= 0x1p-1000 {
			l = append(l, f)
		}
	}
	for _, a := range l {
		for _, b := range l {
			if math.IsInf(a, 0) && a == -b {
				continue
			}
			m := rank.Mid(a, b)
			low, high := min(rank.Key(a), rank.Key(b)), max(rank.Key(a), rank.Key(b))
			if k := rank.Key(m); k < low || k > high || !is(m, rank.Mid(b, a)) {
				t.Fatalf("%x, %x: got %x", a, b, m)
			}
		}
	}
}

// P12.1: of each float's key Of tells what has that key, and of each key that Of takes Key tells it again.
func TestKeyOfOf(t *testing.T) {
	for _, f := range append(all(), byChance(12, 20000)...) {
		got, e := rank.Of(rank.Key(f))
		if e != api.OK || !rank.Same(got, f) || rank.Key(got) != rank.Key(f) {
			t.Fatalf("%x: got %x, %d", math.Float64bits(f), math.Float64bits(got), e)
		}
	}
}

// P12.2: in order each number is below the next one, or the same; what is in order stays as it is.
func TestOrderOfOrder(t *testing.T) {
	once := rank.Order(byChance(13, 3000))
	for i := range once[1:] {
		if rank.Cmp(once[i], once[i+1]) > 0 || rank.Key(once[i]) > rank.Key(once[i+1]) {
			t.Fatalf("%d: got %x, %x", i, once[i], once[i+1])
		}
	}
	for i, f := range rank.Order(once) {
		if math.Float64bits(f) != math.Float64bits(once[i]) {
			t.Fatalf("%d: got %x, want %x", i, f, once[i])
		}
	}
}
