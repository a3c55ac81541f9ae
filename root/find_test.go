package root_test

import (
	"math/rand/v2"
	"testing"

	"tansy/api"
	"tansy/root"
)

// stands is what the words tell of a disk of such sectors: the root of the greatest generation, of those whose turn it is.
func stands(l ...[]byte) (api.Root, bool) {
	var best api.Root
	found := false
	for at, b := range l[:2] {
		if r, may := told(b); may && r.Gen%2 == uint64(at) && r.Gen > best.Gen {
			best, found = r, true
		}
	}
	return best, found
}

// finds holds what Find tells of a disk of such sectors against the words, dry and wet, also at the disk's end; it is whether there is one.
func finds(t *testing.T, l ...[]byte) bool {
	t.Helper()
	want, found := stands(l...)
	f := api.OK
	if !found {
		f = api.ErrNone
	}
	other := dry(plain(of(1<<40-2, 2, 1, 0, 0, 0)), plain(of(1<<40-1, 2, 1, 0, 0, 0)), sector(1))
	for _, d := range []api.Disk{
		synced(l...),
		{Dry: dry(l...)},
		{Dry: other, Wet: []api.Page{{At: 0, B: l[0]}, {At: 1, B: l[1]}}, Left: api.NoEnd},
		{Dry: dry(l[0], other[32:]), Wet: []api.Page{{At: 1, B: l[1]}}},
		{Dry: dry(other[:32], l[1], other[64:]), Wet: []api.Page{{At: 0, B: l[0]}, {At: 2, B: other[:32]}}, Left: api.MaxDeeds},
	} {
		if r, e := root.Find(d); r != want || e != f {
			t.Fatalf("%v: got %v, %d, want %v, %d", d, r, e, want, f)
		}
	}
	return found
}

// P16.3: on a disk of zeros there is none, of whatever count of sectors.
func TestFindNone(t *testing.T) {
	for _, n := range []int{3, 4, 5, api.MaxSectors} {
		if r, e := root.Find(api.Disk{Dry: make([]byte, 32*n), Left: api.NoEnd}); r != (api.Root{}) || e != api.ErrNone {
			t.Errorf("%d: got %v, %d", n, r, e)
		}
	}
	for _, o := range []byte{0, 1, 127, 128, 255} {
		if finds(t, sector(o), sector(o), sector(o)) {
			t.Errorf("%d: found", o)
		}
	}
}

// P16.3: a root that stands in its sector is found, with another one, or none, beside it; one that stands in the other sector is not, nor is one that stands behind both.
func TestFindOne(t *testing.T) {
	for _, r := range good() {
		for _, none := range [][]byte{sector(0), sector(1), sector(255), plain(of(0, 2, 1, 0, 0, 0)), plain(of(1, 1, 1, 0, 0, 0))} {
			l := [][]byte{none, none, none}
			l[r.Gen%2] = plain(r)
			if !finds(t, l...) {
				t.Errorf("%v: not found", r)
			}
			l = [][]byte{none, none, none}
			l[1-r.Gen%2] = plain(r)
			if finds(t, l...) {
				t.Errorf("%v: found in the other sector", r)
			}
			if finds(t, none, none, plain(r)) || finds(t, none, none, plain(r), plain(r)) {
				t.Errorf("%v: found behind", r)
			}
		}
		if !finds(t, plain(r), plain(r), plain(r)) {
			t.Errorf("%v: not found", r)
		}
	}
}

// P16.3: of two roots the one of the greater generation is found, also if they are far apart, and however near they are to the greatest one.
func TestFindGreatest(t *testing.T) {
	gens := []uint64{1, 2, 3, 4, 5, 255, 256, 257, 258, 511, 512, 65535, 65536, 1<<32 - 1, 1 << 32, 1<<39 - 1, 1 << 39, 1<<40 - 2, 1<<40 - 1, 1 << 40}
	for _, a := range gens {
		for _, b := range gens {
			r, s := of(a, 2, 1, 7, 100, 1<<40), of(b, 3, 2, 5, 99, 0)
			finds(t, plain(r), plain(s), sector(0))
			if a%2 == 1 || b%2 == 0 {
				continue
			}
			want := r
			if b > a {
				want = s
			}
			if got, e := root.Find(synced(plain(r), plain(s), sector(0))); got != want || e != api.OK {
				t.Errorf("%d, %d: got %v, %d", a, b, got, e)
			}
		}
	}
}

// P16.3: with any octet of the greater one another one, the other one is found, or what is told then.
func TestFindDamaged(t *testing.T) {
	r, s := plain(of(300, 2, 3, 70, 1, 9)), plain(of(299, 5, 3, 70, 2, 8))
	for at := range 32 {
		for o := range 256 {
			b := plain(of(300, 2, 3, 70, 1, 9))
			b[at] = byte(o)
			if !finds(t, b, s, sector(1)) {
				t.Fatalf("%v: none is found", b)
			}
			b = plain(of(299, 5, 3, 70, 2, 8))
			b[at] = byte(o)
			if !finds(t, r, b, sector(1)) {
				t.Fatalf("%v: none is found", b)
			}
		}
	}
}

// P16.3: roots by chance, some of them damaged, in both sectors.
func TestFindChance(t *testing.T) {
	x := rand.New(rand.NewPCG(4, 16))
	found := 0
	for range 10000 {
		a, b := plain(chance(x)), plain(chance(x))
		for range x.IntN(2) {
			a[x.IntN(32)] ^= 1 << x.IntN(8)
			b[x.IntN(32)] ^= 1 << x.IntN(8)
		}
		if finds(t, a, b, plain(chance(x))) {
			found++
		}
	}
	if found < 3000 || found > 9900 {
		t.Errorf("%d were found", found)
	}
}

// P16.3: ErrArg of disks that may not be, or have too few sectors, though there be roots.
func TestFindArg(t *testing.T) {
	for _, d := range badDisks() {
		for range 2 {
			if r, e := root.Find(d); r != (api.Root{}) || e != api.ErrArg {
				t.Errorf("%.99v: got %v, %d", d, r, e)
			}
			d = deep(d)
			copy(d.Dry, dry(plain(of(2, 2, 1, 0, 0, 0)), plain(of(3, 2, 1, 0, 0, 0))))
		}
	}
}
