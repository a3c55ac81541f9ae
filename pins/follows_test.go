package pins_test

import (
	"math/rand/v2"
	"testing"

	"tansy/api"
	"tansy/pins"
)

// P17.3: what was opened, and closed, is as it was; so is what was closed, and opened.
func TestThereAndBack(t *testing.T) {
	all := append(lists(), row(64, 3, 1), row(64, 3, 64), row(63, 1<<40-62, 63))
	r := rand.New(rand.NewPCG(17, 3))
	for range 500 {
		all = append(all, chance(r, 64))
	}
	for _, l := range all {
		at := gens()
		for _, p := range l {
			at = append(at, p.Gen)
		}
		for _, g := range at {
			if more, e := pins.Open(l, g); e == api.OK {
				if got, e := pins.Close(more, g); !pins.Same(got, l) || e != api.OK {
					t.Fatalf("%v, %d opened and closed: got %v, %d", l, g, got, e)
				}
			}
			if less, e := pins.Close(l, g); e == api.OK {
				if got, e := pins.Open(less, g); !pins.Same(got, l) || e != api.OK {
					t.Fatalf("%v, %d closed and opened: got %v, %d", l, g, got, e)
				}
			}
		}
	}
}

// counts holds pins against a tally: they are pins, each is pinned as often as it should be, and the least one is the least.
func counts(t *testing.T, l []api.Pin, m map[uint64]int) {
	t.Helper()
	if !arePins(l) || pins.Check(l) != api.OK || !pins.Same(l, told(m)) {
		t.Fatalf("got %v, want %v", l, told(m))
	}
	for g := range m {
		if n, e := pins.Many(l, g); n != m[g] || e != api.OK {
			t.Fatalf("%d of %v: got %d, %d, want %d", g, l, n, e, m[g])
		}
	}
	want, wantE := uint64(0), api.ErrNone
	if w := told(m); len(w) > 0 {
		want, wantE = w[0].Gen, api.OK
	}
	if got, e := pins.Least(l); got != want || e != wantE {
		t.Fatalf("%v: got %d, %d, want %d", l, got, e, want)
	}
}

// P17.3: each is counted by itself, in long scripts of opening and closing: of a few generations often full, of many with no room for more.
func TestByItself(t *testing.T) {
	r := rand.New(rand.NewPCG(17, 33))
	for _, many := range []uint64{1, 2, 5, 64, 70, 200} {
		var l []api.Pin
		m, there := map[uint64]int{}, 0
		for step := range 4000 {
			g := r.Uint64N(many) * (1 << 40 / many)
			call, by := pins.Open, 1
			want := api.OK
			if r.IntN(10) < 2+step/1000*2 {
				call, by = pins.Close, -1
			}
			switch {
			case by < 0 && m[g] == 0:
				want = api.ErrNone
			case by > 0 && (m[g] == 64 || m[g] == 0 && there == 64):
				want = api.ErrFull
			}
			got, e := call(l, g)
			if e != want || e != api.OK && len(got) != 0 {
				t.Fatalf("%v, %d, %d: got %v, %d, want %d", l, g, by, got, e, want)
			}
			if e != api.OK {
				continue
			}
			was := m[g]
			m[g] += by
			if was == 0 || m[g] == 0 {
				there += by
			}
			l = got
			counts(t, l, m)
		}
	}
}

// P17.3: so it does not count in which order they are opened, and closed.
func TestAnyOrder(t *testing.T) {
	r := rand.New(rand.NewPCG(17, 333))
	for range 200 {
		var opened []uint64
		for range 1 + r.IntN(200) {
			opened = append(opened, r.Uint64N(40)*3)
		}
		closed := opened[:r.IntN(len(opened)+1)]
		m := map[uint64]int{}
		for _, g := range opened {
			m[g]++
		}
		for _, g := range closed {
			m[g]--
		}
		for range 3 {
			l := all(t, nil, opened, pins.Open, r)
			counts(t, all(t, l, closed, pins.Close, r), m)
		}
	}
}

// all are pins behind a call by each of these, in an order by chance.
func all(t *testing.T, l []api.Pin, gens []uint64, call func([]api.Pin, uint64) ([]api.Pin, api.Errno), r *rand.Rand) []api.Pin {
	t.Helper()
	for _, i := range r.Perm(len(gens)) {
		e := api.OK
		if l, e = call(l, gens[i]); e != api.OK {
			t.Fatalf("%d: got %d", gens[i], e)
		}
	}
	return l
}
