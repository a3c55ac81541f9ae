package root_test

import (
	"bytes"
	"math/rand/v2"
	"testing"

	"tansy/api"
	"tansy/disk"
	"tansy/root"
)

// P16.4: what is written is found, if no greater one is there; else that one is.
func TestWrittenIsFound(t *testing.T) {
	x := rand.New(rand.NewPCG(5, 16))
	d := synced(sector(0), sector(0), sector(0))
	var there [2]api.Root
	for range 5000 {
		r := chance(x)
		n, e := root.Write(d, r)
		if e != api.OK {
			t.Fatalf("%v: got %d", r, e)
		}
		there[r.Gen%2] = r
		want := there[0]
		if there[1].Gen > want.Gen {
			want = there[1]
		}
		got, e := root.Find(n)
		if got != want || e != api.OK || r.Gen >= want.Gen && got != r {
			t.Fatalf("%v: got %v, %d, want %v", r, got, e, want)
		}
		d = n
	}
}

// P16.4: generation behind generation, each is found, and so is what was there ahead of it, whatever crashes.
func TestTurns(t *testing.T) {
	x := rand.New(rand.NewPCG(6, 16))
	d := synced(sector(0), sector(0), sector(0))
	for gen := uint64(1); gen < 2000; gen++ {
		r := chance(x)
		r.Gen = gen
		n, e := root.Write(d, r)
		if e != api.OK {
			t.Fatalf("%v: got %d", r, e)
		}
		n, _ = disk.Crash(n, []byte{byte(x.IntN(256))})
		if got, e := root.Find(n); got != r || e != api.OK {
			t.Fatalf("%v: got %v, %d", r, got, e)
		}
		if got, _ := told(n.Dry[32*(1-gen%2):][:32]); gen > 1 && got.Gen != gen-1 {
			t.Fatalf("%d: got %v", gen, got)
		}
		d = n
	}
}

// crashed is a disk on which a root was being written, when it crashed: of the sector just the mask's groups are kept.
func crashed(t *testing.T, d api.Disk, r api.Root, mask byte) api.Disk {
	t.Helper()
	b, e := root.Octets(r)
	n, f := disk.Write(d, int(r.Gen%2), b)
	if e != api.OK || f != api.OK {
		t.Fatalf("%v: got %d, %d", r, e, f)
	}
	n, e = disk.Crash(n, []byte{mask})
	if e != api.OK {
		t.Fatalf("%v: got %d", r, e)
	}
	return n
}

// keeps takes it that of a root that was being written over another one that, or the other one, or none is read, whatever groups are kept; and that it is found, or what was there.
func keeps(t *testing.T, old, r, beside api.Root) {
	t.Helper()
	l := [][]byte{sector(0), sector(0), sector(0)}
	l[old.Gen%2] = plain(old)
	l[beside.Gen%2] = plain(beside)
	for mask := range 256 {
		d := crashed(t, synced(l...), r, byte(mask))
		got, e := root.Of(d.Dry[32*(r.Gen%2):][:32])
		found, f := root.Find(d)
		want, seen := api.Root{}, beside
		switch mask {
		case 0:
			want = old
		case 255:
			want, seen = r, r
		}
		if got != want || (e == api.OK) != (want != api.Root{}) {
			t.Fatalf("%v over %v, %x: got %v, %d", r, old, mask, got, e)
		}
		if found != seen || f != api.OK {
			t.Fatalf("%v over %v, %x: found %v, %d", r, old, mask, found, f)
		}
	}
}

// P16.4: a root over one of two generations less, with the one between in the other sector: whatever groups are kept, it is read whole, or not at all.
func TestCrash(t *testing.T) {
	x := rand.New(rand.NewPCG(7, 16))
	for range 300 {
		old, r, beside := chance(x), chance(x), chance(x)
		old.Gen = 1 + x.Uint64N(1<<40-2)>>x.IntN(38)
		beside.Gen, r.Gen = old.Gen+1, old.Gen+2
		keeps(t, old, r, beside)
	}
	for _, gen := range []uint64{1, 2, 3, 253, 254, 255, 256, 257, 65534, 65535, 1<<32 - 2, 1<<32 - 1, 1 << 32, 1<<40 - 3, 1<<40 - 2} {
		// All the rest is the same, so each group is told apart by its first octet alone.
		keeps(t, of(gen, 2, 3, 70, 1, 9), of(gen+2, 2, 3, 70, 1, 9), of(gen+1, 2, 3, 70, 1, 9))
	}
}

// P16.4: a root over one of up to 253 generations less.
func TestCrashFar(t *testing.T) {
	x := rand.New(rand.NewPCG(8, 16))
	for less := uint64(2); less <= 253; less += 2 {
		for _, gen := range []uint64{1, 2, 3, 128, 254, 255, 256, 1 + x.Uint64N(1<<40-254), 1<<40 - less} {
			old, r, beside := chance(x), chance(x), chance(x)
			old.Gen, beside.Gen, r.Gen = gen, gen+1, gen+less
			keeps(t, old, r, beside)
		}
	}
}

// P16.4: behind a write that took the last deeds that were left the root is there, and the one ahead of it, whatever crashes.
func TestCrashBehind(t *testing.T) {
	old, r, beside := of(5, 2, 3, 70, 1, 9), of(7, 9, 1, 31, 2, 11), of(6, 5, 4, 100, 3, 10)
	d := synced(plain(beside), plain(old), sector(0))
	d.Left = 2
	for mask := range 256 {
		n, e := root.Write(d, r)
		n, f := disk.Crash(n, []byte{byte(mask), byte(mask)})
		if got, g := root.Find(n); e != api.OK || f != api.OK || got != r || g != api.OK {
			t.Fatalf("%x: got %v, %d, %d, %d", mask, got, e, f, g)
		}
		if !bytes.Equal(n.Dry, dry(plain(beside), plain(r), sector(0))) {
			t.Fatalf("%x: got %v", mask, n.Dry)
		}
	}
}
