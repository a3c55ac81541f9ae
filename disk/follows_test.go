package disk_test

import (
	"bytes"
	"testing"

	"tansy/api"
	"tansy/disk"
)

// plain is a disk kept as plainly as can be: each sector's dry octets, and what was written since the last sync.
type plain struct {
	dry  [][]byte
	wet  map[int][]byte
	left int
}

func newPlain(n int) *plain {
	p := &plain{wet: map[int][]byte{}, left: api.NoEnd}
	for range n {
		p.dry = append(p.dry, make([]byte, api.Sector))
	}
	return p
}

// disk is the plain disk as an api.Disk.
func (p *plain) disk() api.Disk {
	d := api.Disk{Left: p.left}
	for at, b := range p.dry {
		d.Dry = append(d.Dry, b...)
		if w, ok := p.wet[at]; ok {
			d.Wet = append(d.Wet, api.Page{At: at, B: w})
		}
	}
	return d
}

// deed tells whether one is left, and counts it.
func (p *plain) deed() api.Errno {
	if p.left == 0 {
		return api.ErrDead
	}
	if p.left > 0 {
		p.left--
	}
	return api.OK
}

func (p *plain) write(at int, b []byte) api.Errno {
	e := p.deed()
	if e == api.OK {
		p.wet[at] = b
	}
	return e
}

func (p *plain) sync() api.Errno {
	e := p.deed()
	if e == api.OK {
		for at, b := range p.wet {
			p.dry[at] = b
		}
		p.wet = map[int][]byte{}
	}
	return e
}

func (p *plain) crash(masks []byte) {
	i := 0
	for at := range p.dry {
		w, ok := p.wet[at]
		if !ok {
			continue
		}
		b := append([]byte(nil), p.dry[at]...)
		for o := range b {
			if i < len(masks) && masks[i]&(1<<(o/4)) != 0 {
				b[o] = w[o]
			}
		}
		p.dry[at] = b
		i++
	}
	p.wet, p.left = map[int][]byte{}, api.NoEnd
}

// dice are numbers that follow from the first one alone.
type dice uint64

// below is the next number, below n.
func (x *dice) below(n int) int {
	*x = *x*6364136223846793005 + 1442695040888963407
	return int(uint64(*x) >> 33 % uint64(n))
}

func (x *dice) octets(n int) []byte {
	b := make([]byte, n)
	for i := range b {
		b[i] = byte(x.below(256))
	}
	return b
}

// P1.5, with P1.2 to P1.4: long scripts of mixed deeds and crashes go as on a disk that is kept plainly.
func TestScripts(t *testing.T) {
	for seed := range 60 {
		x := dice(seed)
		n := 1 + x.below(6)
		p := newPlain(n)
		d := must(t)(disk.New(n))
		for step := range 80 {
			before := deep(d)
			d = oneStep(t, &x, p, d)
			wantDisk(t, "step", d, p.disk())
			if disk.Check(d) != api.OK {
				t.Fatalf("seed %d, step %d: %v behind %v may not be", seed, step, d, before)
			}
			if t.Failed() {
				t.Fatalf("seed %d, step %d, behind %v", seed, step, before)
			}
		}
	}
}

// oneStep does one thing, that the dice tell, to both disks; with an error the disk stays as it was.
func oneStep(t *testing.T, x *dice, p *plain, d api.Disk) api.Disk {
	t.Helper()
	var got api.Disk
	e, want := api.OK, api.OK
	switch x.below(12) {
	case 0:
		masks := x.octets(x.below(len(p.dry) + 2))
		p.crash(masks)
		got, e = disk.Crash(d, masks)
	case 1, 2:
		want = p.sync()
		got, e = disk.Sync(d)
	case 3:
		p.left = x.below(8) - 1
		got, e = disk.Limit(d, p.left)
	default:
		at, b := x.below(len(p.dry)), x.octets(api.Sector)
		want = p.write(at, b)
		got, e = disk.Write(d, at, b)
	}
	if e != want {
		t.Fatalf("got %d, want %d", e, want)
	}
	if e != api.OK {
		return d
	}
	return got
}

// P1.5: what was written is read, ahead of a sync, and behind it.
func TestWrittenIsRead(t *testing.T) {
	d := must(t)(disk.New(5))
	for i, at := range []int{4, 0, 2, 4} {
		b := rising(byte(17 * i))
		d = must(t)(disk.Write(d, at, b))
		for _, c := range []api.Disk{d, must(t)(disk.Sync(d)), must(t)(disk.Limit(d, 0))} {
			if got, e := disk.Read(c, at); e != api.OK || !bytes.Equal(got, b) {
				t.Errorf("%d: got %v, %d", at, got, e)
			}
		}
	}
}

// P1.5: what was synced stays, whatever crashes; behind a crash each group is the old, or the new one.
func TestCrashKeeps(t *testing.T) {
	x := dice(5)
	for range 200 {
		d := must(t)(disk.New(3))
		for at := range 3 {
			d = must(t)(disk.Write(d, at, x.octets(32)))
		}
		d = must(t)(disk.Sync(d))
		stays, e := disk.Read(d, 1)
		if e != api.OK {
			t.Fatalf("got %d", e)
		}
		old := deep(d)
		d = must(t)(disk.Write(d, 0, x.octets(32)))
		d = must(t)(disk.Write(d, 2, x.octets(32)))
		c := must(t)(disk.Crash(d, x.octets(x.below(4))))
		if b, e := disk.Read(c, 1); e != api.OK || !bytes.Equal(b, stays) {
			t.Fatalf("got %v, %d, want %v", b, e, stays)
		}
		for i, p := range d.Wet {
			for k := 0; k < 32; k += 4 {
				g := c.Dry[p.At*32+k:][:4]
				if !bytes.Equal(g, old.Dry[p.At*32+k:][:4]) && !bytes.Equal(g, p.B[k:][:4]) {
					t.Fatalf("page %d, octet %d: got %v", i, k, g)
				}
			}
		}
	}
}

// P1.5: synced, a disk is the same behind whatever crash, but for how many deeds are left.
func TestSyncedStays(t *testing.T) {
	x := dice(9)
	d := must(t)(disk.New(4))
	for range 30 {
		d = must(t)(disk.Write(d, x.below(4), x.octets(32)))
		s := must(t)(disk.Sync(d))
		wantDisk(t, "crashed", must(t)(disk.Crash(s, x.octets(4))), s)
	}
}
