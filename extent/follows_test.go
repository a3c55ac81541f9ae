package extent_test

import (
	"testing"

	"tansy/api"
	"tansy/extent"
)

// plain tells of each sector whether it is free.
type plain []bool

// extents are the plain sectors as api.Extents.
func (p plain) extents() api.Extents {
	x := api.Extents{Size: len(p)}
	for at := 0; at < len(p); at++ {
		from := at
		for at < len(p) && p[at] {
			at++
		}
		if at > from {
			x.Free = append(x.Free, of(from, at-from))
		}
	}
	return x
}

// all tells whether all sectors of s are so.
func (p plain) all(s api.Extent, so bool) bool {
	for at := s.At; at < s.At+s.Len; at++ {
		if p[at] != so {
			return false
		}
	}
	return true
}

// with are the plain sectors, all those of s being so.
func (p plain) with(s api.Extent, so bool) plain {
	n := append(plain(nil), p...)
	for at := s.At; at < s.At+s.Len; at++ {
		n[at] = so
	}
	return n
}

// take is where the first n free sectors stand, one behind the other.
func (p plain) take(n int) (api.Extent, bool) {
	for at := 0; at+n <= len(p); at++ {
		if p.all(of(at, n), true) {
			return of(at, n), true
		}
	}
	return api.Extent{}, false
}

// eachPlain goes through all ways in which so many sectors may be free.
func eachPlain(size int, do func(plain)) {
	for bits := range 1 << size {
		p := make(plain, size)
		for at := range p {
			p[at] = bits>>at&1 == 1
		}
		do(p)
	}
}

// eachOf goes through all extents of so many sectors.
func eachOf(size int, do func(api.Extent)) {
	for at := range size {
		for n := 1; at+n <= size; n++ {
			do(of(at, n))
		}
	}
}

// P2.1 to P2.3: of up to 7 sectors, whatever is free, each call goes as with sectors that are looked through one by one.
func TestAllOfFew(t *testing.T) {
	for size := range 8 {
		eachPlain(size, func(p plain) {
			x := p.extents()
			n := 0
			for _, f := range p {
				if f {
					n++
				}
			}
			if got, e := extent.Room(x); got != n || e != api.OK || extent.Check(x) != api.OK {
				t.Errorf("%v: got %d, %d", x, got, e)
			}
			for n := 1; n <= size+1; n++ {
				tryTake(t, p, n)
			}
			eachOf(size, func(s api.Extent) { tryKeepAndGive(t, p, s) })
		})
	}
}

func tryTake(t *testing.T, p plain, n int) {
	t.Helper()
	at, ok := p.take(n)
	s, got, e := extent.Take(p.extents(), n)
	if !ok {
		if e != api.ErrFull || s != of(0, 0) || !zero(got) {
			t.Errorf("%v, %d: got %v, %v, %d", p, n, s, got, e)
		}
		return
	}
	if e != api.OK || s != at {
		t.Errorf("%v, %d: got %v, %d", p, n, s, e)
	}
	want(t, "taken", got, p.with(at, false).extents())
}

func tryKeepAndGive(t *testing.T, p plain, s api.Extent) {
	t.Helper()
	kept, e := extent.Keep(p.extents(), s)
	switch {
	case !p.all(s, true):
		if e != api.ErrNone || !zero(kept) {
			t.Errorf("%v, %v: got %v, %d", p, s, kept, e)
		}
	case e != api.OK:
		t.Errorf("%v, %v: got %d", p, s, e)
	default:
		want(t, "kept", kept, p.with(s, false).extents())
	}
	given, e := extent.Give(p.extents(), s)
	switch {
	case !p.all(s, false):
		if e != api.ErrThere || !zero(given) {
			t.Errorf("%v, %v: got %v, %d", p, s, given, e)
		}
	case e != api.OK:
		t.Errorf("%v, %v: got %d", p, s, e)
	default:
		want(t, "given", given, p.with(s, true).extents())
	}
}

// P2.4: what is taken, or kept, and given back, leaves x as it was.
func TestBack(t *testing.T) {
	eachPlain(7, func(p plain) {
		x := p.extents()
		for n := 1; n <= 7; n++ {
			if s, y, e := extent.Take(x, n); e == api.OK {
				if back := must(t)(extent.Give(y, s)); !extent.Same(back, x) || !alike(back, x) {
					t.Errorf("%v, %d: got %v", x, n, back)
				}
			}
		}
		eachOf(7, func(s api.Extent) {
			if y, e := extent.Keep(x, s); e == api.OK {
				want(t, "kept and given", must(t)(extent.Give(y, s)), x)
			}
			if y, e := extent.Give(x, s); e == api.OK {
				want(t, "given and kept", must(t)(extent.Keep(y, s)), x)
			}
		})
	})
}

// dice are numbers that follow from the first one alone.
type dice uint64

// below is the next number, below n.
func (x *dice) below(n int) int {
	*x = *x*6364136223846793005 + 1442695040888963407
	return int(uint64(*x) >> 33 % uint64(n))
}

// P2.4: in whatever order extents are given, the same are free, and room is counted.
func TestOrders(t *testing.T) {
	for seed := range 40 {
		d := dice(seed)
		var l []api.Extent
		end := d.below(2)
		for end < 60 {
			l = append(l, of(end, 1+d.below(5)))
			end += l[len(l)-1].Len + d.below(3)
		}
		rising, mixed := free(end+3), free(end+3)
		room := 0
		for _, s := range l {
			rising = must(t)(extent.Give(rising, s))
			room += s.Len
		}
		for i := range l {
			j := i + d.below(len(l)-i)
			l[i], l[j] = l[j], l[i]
			mixed = must(t)(extent.Give(mixed, l[i]))
		}
		want(t, "given in another order", mixed, rising)
		if got, e := extent.Room(mixed); got != room || e != api.OK {
			t.Errorf("seed %d: got %d, want %d", seed, got, room)
		}
	}
}

// P2.4: of all sectors that there may be, long scripts of takes and gives go as with sectors that are looked through one by one.
func TestScripts(t *testing.T) {
	for seed := range 6 {
		d := dice(seed)
		size := []int{api.MaxSectors, 100}[seed%2]
		x := must(t)(extent.New(size))
		p := make(plain, size).with(of(0, size), true)
		var out []api.Extent
		for step := range 300 {
			if len(out) > 0 && d.below(5) < 2 {
				i := d.below(len(out))
				x, p = must(t)(extent.Give(x, out[i])), p.with(out[i], true)
				out = append(out[:i], out[i+1:]...)
			} else {
				n := 1 + d.below(size/12)
				at, ok := p.take(n)
				s, y, e := extent.Take(x, n)
				if ok != (e == api.OK) || s != at {
					t.Fatalf("seed %d, step %d: got %v, %d", seed, step, s, e)
				}
				if ok {
					x, p, out = y, p.with(s, false), append(out, s)
				}
			}
			if !alike(x, p.extents()) || extent.Check(x) != api.OK {
				t.Fatalf("seed %d, step %d: got %v, want %v", seed, step, x, p.extents())
			}
		}
	}
}
