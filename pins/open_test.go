package pins_test

import (
	"math"
	"math/rand/v2"
	"testing"

	"tansy/api"
	"tansy/pins"
)

// wantOpen are the pins with a generation once more, by the words.
func wantOpen(l []api.Pin, gen uint64) ([]api.Pin, api.Errno) {
	m := tally(l)
	if !arePins(l) || gen > 1<<40 {
		return nil, api.ErrArg
	}
	if m[gen] == 64 || m[gen] == 0 && len(l) == 64 {
		return nil, api.ErrFull
	}
	m[gen]++
	return told(m), api.OK
}

// wantClose are the pins with a generation once less, by the words.
func wantClose(l []api.Pin, gen uint64) ([]api.Pin, api.Errno) {
	m := tally(l)
	if !arePins(l) || gen > 1<<40 {
		return nil, api.ErrArg
	}
	if m[gen] == 0 {
		return nil, api.ErrNone
	}
	m[gen]--
	return told(m), api.OK
}

// same are two lists, one by one.
func same(a, b []api.Pin) bool {
	if len(a) != len(b) {
		return false
	}
	for i := range a {
		if a[i].Gen != b[i].Gen || a[i].N != b[i].N {
			return false
		}
	}
	return true
}

// both holds Open and Close against the words.
func both(t *testing.T, l []api.Pin, gen uint64) {
	t.Helper()
	want, wantE := wantOpen(l, gen)
	if got, e := pins.Open(l, gen); !same(got, want) || e != wantE {
		t.Fatalf("%v, %d opened: got %v, %d, want %v, %d", l, gen, got, e, want, wantE)
	}
	want, wantE = wantClose(l, gen)
	if got, e := pins.Close(l, gen); !same(got, want) || e != wantE {
		t.Fatalf("%v, %d closed: got %v, %d, want %v, %d", l, gen, got, e, want, wantE)
	}
}

// P17.2: Open and Close are as the words say, of all lists of a few, pins or none, by generations at and beyond their edges.
func TestBoth(t *testing.T) {
	for _, l := range lists() {
		for _, g := range gens() {
			both(t, l, g)
		}
	}
}

// P17.2: so they are of up to 64 pins, and of more than there may be, by a generation ahead of them, between any two, each one of them, and behind.
func TestBothOfMany(t *testing.T) {
	for _, count := range []int{1, 2, 31, 62, 63, 64, 65} {
		for _, n := range []int{1, 2, 63, 64} {
			l := row(count, 0, n)
			for i := range l {
				l[i].Gen = uint64(1 + 2*i)
			}
			for g := range uint64(2*count + 3) {
				both(t, l, g)
			}
			both(t, l, 1<<40)
			both(t, l, 1<<40+1)
			both(t, l, math.MaxUint64)
		}
	}
}

// P17.2: and by chance.
func TestBothByChance(t *testing.T) {
	r := rand.New(rand.NewPCG(17, 2))
	for range 3000 {
		l := chance(r, 64)
		both(t, l, r.Uint64N(1<<40+1))
		for _, p := range l {
			both(t, l, p.Gen)
		}
	}
}

// P17.2: 5 opened twice, and closed once, is pinned once.
func TestExample(t *testing.T) {
	l, e := pins.Open(nil, 5)
	if !same(l, []api.Pin{pin(5, 1)}) || e != api.OK {
		t.Fatalf("got %v, %d", l, e)
	}
	l, e = pins.Open(l, 5)
	if !same(l, []api.Pin{pin(5, 2)}) || e != api.OK {
		t.Fatalf("got %v, %d", l, e)
	}
	l, e = pins.Close(l, 5)
	if !same(l, []api.Pin{pin(5, 1)}) || e != api.OK {
		t.Fatalf("got %v, %d", l, e)
	}
	if n, e := pins.Many(l, 5); n != 1 || e != api.OK {
		t.Errorf("got %d, %d", n, e)
	}
}

// P17.2: a generation is opened 64 times, and no more; closed as often, it is no more there, and no more closed.
func TestFull(t *testing.T) {
	for _, gen := range []uint64{0, 5, 1 << 40} {
		var l []api.Pin
		e := api.OK
		for n := range 64 {
			if l, e = pins.Open(l, gen); !same(l, []api.Pin{pin(gen, n+1)}) || e != api.OK {
				t.Fatalf("%d: got %v, %d", n, l, e)
			}
		}
		if got, e := pins.Open(l, gen); len(got) != 0 || e != api.ErrFull {
			t.Errorf("got %v, %d", got, e)
		}
		for n := range 63 {
			if l, e = pins.Close(l, gen); !same(l, []api.Pin{pin(gen, 63-n)}) || e != api.OK {
				t.Fatalf("%d: got %v, %d", n, l, e)
			}
		}
		if l, e = pins.Close(l, gen); len(l) != 0 || e != api.OK {
			t.Errorf("got %v, %d", l, e)
		}
		if l, e = pins.Close(l, gen); len(l) != 0 || e != api.ErrNone {
			t.Errorf("got %v, %d", l, e)
		}
	}
}

// P17.2: of 64 pins each is opened again, but no other one is; one that is closed makes room for any one.
func TestRoom(t *testing.T) {
	l := row(64, 10, 1)
	for g := range uint64(90) {
		there := g >= 10 && g < 74
		got, e := pins.Open(l, g)
		if there && (len(got) != 64 || e != api.OK) || !there && (len(got) != 0 || e != api.ErrFull) {
			t.Errorf("%d: got %v, %d", g, got, e)
		}
		if !there {
			continue
		}
		less, _ := pins.Close(l, g)
		if got, e := pins.Open(less, 1000+g); len(got) != 64 || e != api.OK {
			t.Errorf("%d: got %v, %d", g, got, e)
		}
	}
}
