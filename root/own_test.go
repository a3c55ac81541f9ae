package root_test

import (
	"bytes"
	"math"
	"sync"
	"testing"

	"tansy/api"
	"tansy/disk"
	"tansy/root"
)

// scribble writes into octets, and into the room behind them.
func scribble(b []byte) {
	b = b[:cap(b)]
	for i := range b {
		b[i] ^= 0x5A
	}
}

// scrawl writes into all that a disk has, and into the room behind each of its lists.
func scrawl(d api.Disk) {
	scribble(d.Dry)
	for _, p := range d.Wet {
		scribble(p.B)
	}
	l := d.Wet[:cap(d.Wet)]
	for i := range l {
		l[i] = api.Page{At: -9, B: l[i].B}
	}
}

// roomy is a copy of octets with room behind them, in which others stand.
func roomy(b []byte) []byte {
	return append(bytes.Clone(b), "behind it"...)[:len(b)]
}

// lent is a copy of a disk, whose lists all have room behind them.
func lent(d api.Disk) api.Disk {
	c := api.Disk{Dry: roomy(d.Dry), Left: d.Left}
	for _, p := range d.Wet {
		c.Wet = append(c.Wet, api.Page{At: p.At, B: roomy(p.B)})
	}
	c.Wet = append(c.Wet, api.Page{At: 77}, api.Page{At: 88})[:len(d.Wet)]
	return c
}

// untouched takes it that a lent disk is as it was, with the room behind its lists.
func untouched(t *testing.T, c, was api.Disk) {
	t.Helper()
	if !disk.Same(c, was) || !behind(c.Dry) {
		t.Fatalf("%.99v was handed in", c)
	}
	for _, p := range c.Wet {
		if !behind(p.B) {
			t.Fatalf("%v was handed in", p)
		}
	}
	if l := c.Wet[:len(c.Wet)+2]; l[len(c.Wet)].At != 77 || l[len(c.Wet)+1].At != 88 {
		t.Fatalf("%v was behind what was handed in", l)
	}
}

// behind tells whether the room behind octets is as it was lent.
func behind(b []byte) bool { return string(b[len(b):len(b)+9]) == "behind it" }

// R2: a disk is as it was, with the room behind its lists, whatever is written on it, or found; what is answered stays, whoever writes into it, or into another answer.
func TestOwnDisk(t *testing.T) {
	for _, d := range disks() {
		for _, r := range good() {
			c := lent(d)
			got, e := root.Write(c, r)
			other, _ := root.Write(c, r)
			root.Find(c)
			untouched(t, c, d)
			scrawl(other)
			untouched(t, c, d)
			scrawl(c)
			if !disk.Same(got, kept(d, r)) || e != api.OK {
				t.Errorf("%v: got %.99v, %d", r, got, e)
			}
		}
	}
}

// R2: what ends with an error changes nothing either.
func TestOwnErrors(t *testing.T) {
	for _, d := range append(disks(), badDisks()...) {
		for _, left := range []int{d.Left, 0, 1} {
			d.Left = left
			c := lent(d)
			root.Find(c)
			root.Write(c, bad()[1])
			if left == 0 || left == 1 {
				root.Write(c, good()[1])
			}
			untouched(t, c, d)
		}
	}
	for _, b := range [][]byte{nil, {}, sector(0), plain(bad()[1]), make([]byte, 33)} {
		c := roomy(b)
		root.Of(c)
		if !bytes.Equal(c, b) || !behind(c) {
			t.Errorf("%v was handed in", c)
		}
	}
}

// R2: octets that are read are as they were; those that are told are the caller's own, and new each time.
func TestOwnOctets(t *testing.T) {
	for _, r := range good() {
		c := roomy(plain(r))
		if got, e := root.Of(c); got != r || e != api.OK || !bytes.Equal(c, plain(r)) || !behind(c) {
			t.Errorf("%v: got %v, %d, of %v", r, got, e, c)
		}
		got, _ := root.Octets(r)
		other, _ := root.Octets(r)
		scribble(other)
		_ = append(other, "more"...)
		if !bytes.Equal(got, plain(r)) {
			t.Errorf("%v: got %v", r, got)
		}
		scribble(got)
		if again, e := root.Octets(r); !bytes.Equal(again, plain(r)) || e != api.OK {
			t.Errorf("%v: got %v, %d", r, again, e)
		}
	}
}

// R2: what is found hangs no more on the disk, whoever writes into it.
func TestOwnFound(t *testing.T) {
	for _, r := range good() {
		d := kept(disks()[0], r)
		got, e := root.Find(d)
		scrawl(d)
		if got != r || e != api.OK {
			t.Errorf("%v: got %v, %d", r, got, e)
		}
	}
}

// R3: a disk without wet pages, and one whose list of them is empty, are the same; so are no octets, and an empty text.
func TestNothing(t *testing.T) {
	r := good()[1]
	for _, wet := range [][]api.Page{nil, {}} {
		d := api.Disk{Dry: make([]byte, 96), Wet: wet, Left: api.NoEnd}
		if got, e := root.Find(d); got != (api.Root{}) || e != api.ErrNone {
			t.Errorf("got %v, %d", got, e)
		}
		if got, e := root.Write(d, r); !disk.Same(got, kept(d, r)) || e != api.OK {
			t.Errorf("got %v, %d", got, e)
		}
	}
	for _, b := range [][]byte{nil, {}, plain(r)[32:]} {
		if got, e := root.Of(b); got != (api.Root{}) || e != api.ErrForm {
			t.Errorf("got %v, %d", got, e)
		}
	}
}

// R1, R5: asked again, behind calls that end with an error, and side by side with others, each call answers the same; nothing is kept.
func TestAgain(t *testing.T) {
	d := synced(plain(of(4, 2, 1, 0, 0, 0)), plain(of(3, 3, 1, 0, 0, 0)), sector(1))
	d.Wet = []api.Page{{At: 2, B: sector(2)}}
	r := of(5, 2, 3, 70, 3421780262, 9)
	want := kept(d, r)
	var side sync.WaitGroup
	for range 8 {
		side.Go(func() {
			for range 200 {
				root.Check(of(math.MaxUint64, math.MinInt, math.MaxInt, -1, 0, 0))
				root.Of(sector(1))
				root.Write(d, bad()[3])
				root.Find(api.Disk{})
				if got, e := root.Find(d); got != of(4, 2, 1, 0, 0, 0) || e != api.OK {
					t.Errorf("got %v, %d", got, e)
				}
				n, e := root.Write(d, r)
				if !disk.Same(n, want) || e != api.OK {
					t.Errorf("got %v, %d", n, e)
				}
				if got, e := root.Find(n); got != r || e != api.OK {
					t.Errorf("got %v, %d", got, e)
				}
				b, e := root.Octets(r)
				if got, f := root.Of(b); got != r || e != api.OK || f != api.OK || root.Check(got) != api.OK {
					t.Errorf("got %v, %d, %d", got, e, f)
				}
			}
		})
	}
	side.Wait()
}
