package pins_test

import (
	"maps"
	"math"
	"math/rand/v2"
	"slices"
	"testing"

	"tansy/api"
	"tansy/pins"
)

// pin is one.
func pin(gen uint64, n int) api.Pin { return api.Pin{Gen: gen, N: n} }

// gens are generations at and beyond their edges, rising.
func gens() []uint64 {
	return []uint64{0, 1, 2, 5, 1 << 32, 1<<40 - 1, 1 << 40, 1<<40 + 1, 1 << 63, math.MaxUint64}
}

// times are how often one may, and may not, be pinned.
func times() []int { return []int{1, 2, 63, 64, 0, -1, 65, math.MinInt, math.MaxInt} }

// single are all pins of those.
func single() []api.Pin {
	var l []api.Pin
	for _, g := range gens() {
		for _, n := range times() {
			l = append(l, api.Pin{Gen: g, N: n})
		}
	}
	return l
}

// lists are all lists of up to two of all of those, and of up to four of a few.
func lists() [][]api.Pin {
	all := append(upTo(single(), 2), nil, []api.Pin{})
	few := []api.Pin{pin(0, 1), pin(1, 64), pin(1, 2), pin(1<<40, 1), pin(1<<40, 65), pin(1<<40+1, 1), pin(2, 0)}
	return append(all, upTo(few, 4)...)
}

// upTo are all lists of one to n of these.
func upTo(of []api.Pin, n int) [][]api.Pin {
	var all [][]api.Pin
	last := [][]api.Pin{nil}
	for range n {
		var next [][]api.Pin
		for _, l := range last {
			for _, p := range of {
				next = append(next, append(slices.Clone(l), p))
			}
		}
		all = append(all, next...)
		last = next
	}
	return all
}

// row are so many pins from a generation on, each of them so often.
func row(count int, from uint64, n int) []api.Pin {
	var l []api.Pin
	for i := range count {
		l = append(l, api.Pin{Gen: from + uint64(i), N: n})
	}
	return l
}

// arePins reads the words: each one is held against all that are ahead of it.
func arePins(l []api.Pin) bool {
	for i, p := range l {
		if i >= 64 || p.Gen > 1<<40 || p.N <= 0 || p.N > 64 {
			return false
		}
		for _, q := range l[:i] {
			if q.Gen >= p.Gen {
				return false
			}
		}
	}
	return true
}

// tally is how often each generation is pinned.
func tally(l []api.Pin) map[uint64]int {
	m := map[uint64]int{}
	for _, p := range l {
		m[p.Gen] += p.N
	}
	return m
}

// told are the pins of a tally.
func told(m map[uint64]int) []api.Pin {
	var l []api.Pin
	for _, g := range slices.Sorted(maps.Keys(m)) {
		if m[g] > 0 {
			l = append(l, api.Pin{Gen: g, N: m[g]})
		}
	}
	return l
}

// chance are pins by chance, of at most so many generations.
func chance(r *rand.Rand, most int) []api.Pin {
	m := map[uint64]int{}
	for range r.IntN(most + 1) {
		m[r.Uint64N(1<<40+1)] = 1 + r.IntN(64)
	}
	return told(m)
}

// P17.1: Check is OK of pins, and ErrArg of any other list.
func TestCheck(t *testing.T) {
	for _, l := range lists() {
		want := api.OK
		if !arePins(l) {
			want = api.ErrArg
		}
		if e := pins.Check(l); e != want {
			t.Errorf("%v: got %d, want %d", l, e, want)
		}
	}
}

// P17.1: there are at most 64, each of them at most 64 times.
func TestCheckMany(t *testing.T) {
	for count := range 70 {
		for _, n := range times() {
			for _, from := range []uint64{0, 7, 1<<40 - 63, 1<<40 - 62} {
				l := row(count, from, n)
				if got := pins.Check(l) == api.OK; got != arePins(l) {
					t.Errorf("%d of %d times from %d on: got %v", count, n, from, got)
				}
			}
		}
	}
	if e := pins.Check(row(1<<20, 0, 1)); e != api.ErrArg {
		t.Errorf("got %d", e)
	}
}

// P17.1: one that is not as it should be, at whatever place, makes a list none.
func TestCheckPlaces(t *testing.T) {
	for i := range 64 {
		l := row(64, 100, 3)
		if e := pins.Check(l); e != api.OK {
			t.Fatalf("got %d", e)
		}
		for _, p := range []api.Pin{pin(100+uint64(i), 0), pin(100+uint64(i), 65), pin(1<<40+1, 3), pin(math.MaxUint64, 3)} {
			l[i] = p
			if e := pins.Check(l); e != api.ErrArg {
				t.Errorf("%v at %d: got %d", p, i, e)
			}
		}
		for j := range 64 {
			l[i] = api.Pin{Gen: 100 + uint64(j), N: 3}
			if got := pins.Check(l) == api.OK; got != (i == j) {
				t.Errorf("%d's at %d: got %v", j, i, got)
			}
		}
	}
}

// P17.1: Same tells whether two are the same, one by one, whether they may be or not.
func TestSame(t *testing.T) {
	all := append(upTo(single(), 1), nil, []api.Pin{}, row(64, 0, 1), row(63, 0, 1), row(65, 0, 1))
	few := []api.Pin{pin(1, 1), pin(1, 2), pin(2, 1), pin(1<<41, -1)}
	all = append(all, upTo(few, 3)...)
	for i, a := range all {
		for j, b := range all {
			same := len(a) == len(b)
			for k := 0; same && k < len(a); k++ {
				same = a[k].Gen == b[k].Gen && a[k].N == b[k].N
			}
			if got := pins.Same(a, b); got != same {
				t.Errorf("%v, %v: got %v", a, b, got)
			}
			if got := pins.Same(slices.Clone(a), b); got != same {
				t.Errorf("%d, %d, a copy: got %v", i, j, got)
			}
		}
	}
}

// P17.1: Many is how often a generation is pinned, 0 of one that is not; ErrArg, if a list is none, or the generation is above MaxGen.
func TestMany(t *testing.T) {
	for _, l := range lists() {
		may, m := arePins(l), tally(l)
		for _, g := range gens() {
			want, wantE := m[g], api.OK
			if !may || g > 1<<40 {
				want, wantE = 0, api.ErrArg
			}
			if got, e := pins.Many(l, g); got != want || e != wantE {
				t.Errorf("%v, %d: got %d, %d, want %d, %d", l, g, got, e, want, wantE)
			}
		}
	}
}

// P17.1: so it is of each of many.
func TestManyOfMany(t *testing.T) {
	l := row(64, 10, 1)
	for i := range l {
		l[i].Gen, l[i].N = uint64(10+2*i), 64-i
	}
	m := tally(l)
	for g := range uint64(150) {
		if got, e := pins.Many(l, g); got != m[g] || e != api.OK {
			t.Errorf("%d: got %d, %d, want %d", g, got, e, m[g])
		}
	}
}

// P17.1: Least is the least generation; ErrNone, if there are no pins; ErrArg, if a list is none.
func TestLeast(t *testing.T) {
	for _, l := range append(lists(), row(64, 7, 64), row(65, 7, 64), row(2, 1<<40-1, 1)) {
		want, wantE := uint64(math.MaxUint64), api.OK
		for _, p := range l {
			want = min(want, p.Gen)
		}
		switch {
		case !arePins(l):
			want, wantE = 0, api.ErrArg
		case len(l) == 0:
			want, wantE = 0, api.ErrNone
		}
		if got, e := pins.Least(l); got != want || e != wantE {
			t.Errorf("%v: got %d, %d, want %d, %d", l, got, e, want, wantE)
		}
	}
}
