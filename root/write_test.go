package root_test

import (
	"bytes"
	"math"
	"math/rand/v2"
	"testing"

	"tansy/api"
	"tansy/disk"
	"tansy/root"
)

// sector is a sector of one octet, again and again.
func sector(o byte) []byte { return bytes.Repeat([]byte{o}, 32) }

// dry are the octets of sectors, one behind the other.
func dry(l ...[]byte) []byte { return bytes.Join(l, nil) }

// synced is a disk of such sectors, nothing wet, without end.
func synced(l ...[]byte) api.Disk { return api.Disk{Dry: dry(l...), Left: api.NoEnd} }

// deep is a copy of a disk that shares nothing with it.
func deep(d api.Disk) api.Disk {
	c := api.Disk{Dry: bytes.Clone(d.Dry), Left: d.Left}
	for _, p := range d.Wet {
		c.Wet = append(c.Wet, api.Page{At: p.At, B: bytes.Clone(p.B)})
	}
	return c
}

// disks are disks that may be, and have sectors enough.
func disks() []api.Disk {
	return []api.Disk{
		synced(sector(0), sector(0), sector(0)),
		synced(sector(1), sector(2), sector(3), sector(4)),
		{Dry: dry(sector(1), sector(2), sector(3)), Left: 2},
		{Dry: dry(sector(1), sector(2), sector(3)), Wet: []api.Page{{At: 0, B: sector(4)}, {At: 1, B: sector(5)}, {At: 2, B: sector(6)}}, Left: 3},
		{Dry: dry(sector(1), sector(2), sector(3), sector(4)), Wet: []api.Page{{At: 1, B: sector(5)}, {At: 3, B: sector(6)}}, Left: api.MaxDeeds},
		{Dry: make([]byte, api.MaxSectors*32), Wet: []api.Page{{At: api.MaxSectors - 1, B: sector(7)}}, Left: api.NoEnd},
	}
}

// badDisks are disks that may not be, or have too few sectors, each for one reason alone.
func badDisks() []api.Disk {
	wet := func(l ...api.Page) api.Disk {
		return api.Disk{Dry: dry(sector(1), sector(2), sector(3)), Wet: l, Left: api.NoEnd}
	}
	return []api.Disk{
		{}, {Left: api.NoEnd}, synced(sector(1)), synced(sector(1), sector(2)),
		{Dry: dry(sector(1), sector(2)), Wet: []api.Page{{At: 0, B: sector(4)}, {At: 1, B: sector(5)}}, Left: 9},
		synced(sector(1), sector(2), sector(3)[:31]), synced(sector(1), sector(2), sector(3), []byte{4}),
		{Dry: make([]byte, (api.MaxSectors+1)*32), Left: api.NoEnd},
		{Dry: make([]byte, 96), Left: -2}, {Dry: make([]byte, 96), Left: api.MaxDeeds + 1}, {Dry: make([]byte, 96), Left: math.MinInt},
		wet(api.Page{At: -1, B: sector(4)}), wet(api.Page{At: 3, B: sector(4)}), wet(api.Page{At: 1, B: sector(4)}, api.Page{At: 1, B: sector(4)}),
		wet(api.Page{At: 2, B: sector(4)}, api.Page{At: 1, B: sector(4)}), wet(api.Page{At: 2, B: sector(4)[:31]}), wet(api.Page{At: 2}), wet(api.Page{At: 2, B: make([]byte, 33)}),
	}
}

// kept is what the words tell of a disk on which a root is written: all is dry, and in its sector are its octets.
func kept(d api.Disk, r api.Root) api.Disk {
	n := api.Disk{Dry: bytes.Clone(d.Dry), Left: d.Left}
	for _, p := range d.Wet {
		copy(n.Dry[32*p.At:], p.B)
	}
	copy(n.Dry[32*(r.Gen%2):], plain(r))
	if n.Left != api.NoEnd {
		n.Left -= 2
	}
	return n
}

// noDisk tells whether a disk is the one that goes with an error.
func noDisk(d api.Disk) bool { return len(d.Dry) == 0 && len(d.Wet) == 0 && d.Left == 0 }

// P16.2: each root is in the sector whose turn it is, and dry, as is all that was wet; no other sector is another one, and there are two deeds less.
func TestWrite(t *testing.T) {
	for _, d := range disks() {
		for _, r := range good() {
			got, e := root.Write(d, r)
			if e != api.OK || !disk.Same(got, kept(d, r)) {
				t.Fatalf("%v, %.99v: got %.99v, %d", r, d, got, e)
			}
		}
	}
	r := of(4, 8191, 1, 32, 1, 2)
	want := api.Disk{Dry: dry(plain(r), sector(5), sector(6)), Left: 1}
	if got, e := root.Write(disks()[3], r); e != api.OK || !disk.Same(got, want) {
		t.Errorf("got %v, %d", got, e)
	}
}

// P16.2: a root is written as it is, whatever is there already, and whether the disk has the sectors that it tells of or not.
func TestWriteAnyway(t *testing.T) {
	x := rand.New(rand.NewPCG(3, 16))
	d := synced(sector(9), sector(8), sector(7))
	for range 3000 {
		r := chance(x)
		want := kept(d, r)
		got, e := root.Write(d, r)
		if e != api.OK || !disk.Same(got, want) {
			t.Fatalf("%v on %v: got %v, %d", r, d, got, e)
		}
		d = got
	}
}

// P16.2: ErrArg of roots that may not be, and of disks that may not be, or have too few sectors, each alone and both; also at a disk's end.
func TestWriteArg(t *testing.T) {
	refuse := func(d api.Disk, r api.Root) {
		t.Helper()
		if got, e := root.Write(d, r); e != api.ErrArg || !noDisk(got) {
			t.Errorf("%v, %.99v: got %.99v, %d", r, d, got, e)
		}
	}
	for _, r := range bad() {
		for _, d := range append(disks(), badDisks()...) {
			refuse(d, r)
			d.Left = 0
			refuse(d, r)
		}
	}
	for _, r := range good() {
		for _, d := range badDisks() {
			refuse(d, r)
		}
	}
	for _, left := range []int{0, 1, 2, api.NoEnd} {
		refuse(api.Disk{Dry: make([]byte, 64), Left: left}, good()[0])
	}
}

// P16.2: ErrDead, if the disk comes to its end ahead of the write, or ahead of the sync; with two deeds left it is written.
func TestWriteDead(t *testing.T) {
	for _, d := range disks() {
		for _, r := range good() {
			for left := range 2 {
				d.Left = left
				if got, e := root.Write(d, r); e != api.ErrDead || !noDisk(got) {
					t.Errorf("%d, %v: got %.99v, %d", left, r, got, e)
				}
			}
			d.Left = 2
			if got, e := root.Write(d, r); e != api.OK || got.Left != 0 || !disk.Same(got, kept(d, r)) {
				t.Errorf("%v: got %.99v, %d", r, got, e)
			}
		}
	}
}
