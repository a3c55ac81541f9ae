package space_test

import (
	"math"
	"math/rand/v2"
	"slices"
	"testing"

	"tansy/api"
	"tansy/space"
)

// of is an extent, pin a pin, ver a version.
func of(at, n int) api.Extent { return api.Extent{At: at, Len: n} }

func pin(gen uint64, n int) api.Pin { return api.Pin{Gen: gen, N: n} }

func ver(gen uint64, s ...api.Extent) api.Version { return api.Version{Gen: gen, S: s} }

// row are extents of one sector each.
func row(at ...int) []api.Extent {
	var l []api.Extent
	for _, a := range at {
		l = append(l, of(a, 1))
	}
	return l
}

// sample is space of 20 sectors that has some of all: extents of one version, of two, and of all three; of the last one that counts, too.
func sample() api.Space {
	return api.Space{
		X:     api.Extents{Size: 20, Free: []api.Extent{of(2, 1), of(6, 2), of(12, 3)}},
		Out:   []api.Extent{of(3, 2), of(8, 1), of(9, 1)},
		Vers:  []api.Version{ver(2, of(5, 1), of(15, 1)), ver(4, of(5, 1), of(16, 2)), ver(9, of(5, 1), of(11, 1), of(16, 2))},
		Pins:  []api.Pin{pin(2, 1), pin(4, 3)},
		Queue: []api.Extent{of(18, 2), of(10, 1)},
	}
}

// numbers are so many versions' generations.
func numbers(vers int) []uint64 { return [][]uint64{{0}, {0, 7}, {1, 2, 7}}[vers-1] }

// eachSpace goes through all space of so many sectors, and versions: all ways to cut them into extents, each of which is of any one thing, with some pins, and with what waits in either order.
func eachSpace(size, vers int, do func(api.Space)) {
	x := api.Space{X: api.Extents{Size: size}}
	for _, g := range numbers(vers) {
		x.Vers = append(x.Vers, ver(g))
	}
	eachThing(x, 2, func(x api.Space) {
		for _, l := range somePins(x.Vers) {
			y := deep(x)
			y.Pins = l
			do(y)
			if len(y.Queue) > 1 {
				slices.Reverse(y.Queue)
				do(y)
			}
		}
	})
}

// eachThing goes on with eachSpace from a sector on.
func eachThing(x api.Space, at int, do func(api.Space)) {
	if at == x.X.Size {
		do(x)
		return
	}
	for n := 1; at+n <= x.X.Size; n++ {
		for kind := range needed + 1<<len(x.Vers) - 1 {
			if y, ok := withThing(deep(x), of(at, n), kind); ok {
				eachThing(y, at+n, do)
			}
		}
	}
}

// withThing is space with one thing more: of the kinds from needed on each is of other versions. Of free extents no two touch.
func withThing(x api.Space, s api.Extent, kind int) (api.Space, bool) {
	switch kind {
	case free:
		if n := len(x.X.Free); n > 0 && x.X.Free[n-1].At+x.X.Free[n-1].Len == s.At {
			return x, false
		}
		x.X.Free = append(x.X.Free, s)
	case out:
		x.Out = append(x.Out, s)
	case waits:
		x.Queue = append(x.Queue, s)
	default:
		for i := range x.Vers {
			if (kind-needed+1)>>i&1 == 1 {
				x.Vers[i].S = append(x.Vers[i].S, s)
			}
		}
	}
	return x, true
}

// somePins are pins that versions may have: those that must be pinned once, the last one not; all once; those twice, the last one 64 times.
func somePins(l []api.Version) [][]api.Pin {
	var a, b, c []api.Pin
	for _, v := range l {
		a, b, c = append(a, pin(v.Gen, 1)), append(b, pin(v.Gen, 1)), append(c, pin(v.Gen, 2))
	}
	c[len(c)-1].N = 64
	return [][]api.Pin{a[:len(a)-1], b, c}
}

// chance is space by chance, of so many sectors, with at most so many versions, none of which needs more than a few sectors in one extent.
func chance(r *rand.Rand, size, vers int) api.Space {
	x := api.Space{X: api.Extents{Size: size}}
	gen := r.Uint64N(10)
	for range 1 + r.IntN(vers) {
		x.Vers = append(x.Vers, ver(gen))
		gen += 1 + r.Uint64N(10)
	}
	for _, v := range x.Vers[:min(len(x.Vers)-r.IntN(2), 64)] {
		x.Pins = append(x.Pins, pin(v.Gen, 1+r.IntN(64)))
	}
	for at := 2; at < size; {
		s := of(at, 1+r.IntN(min(4, size-at)))
		y, ok := withThing(x, s, free)
		switch kind := r.IntN(6); {
		case kind < needed && kind != free:
			y, ok = withThing(x, s, kind)
		case kind > needed:
			y, ok = needs(r, x, s), true
		}
		if ok {
			x, at = y, at+s.Len
		}
	}
	r.Shuffle(len(x.Queue), func(i, j int) { x.Queue[i], x.Queue[j] = x.Queue[j], x.Queue[i] })
	return x
}

// needs is space in which some versions need s, one of them at the least.
func needs(r *rand.Rand, x api.Space, s api.Extent) api.Space {
	must := r.IntN(len(x.Vers))
	for i := range x.Vers {
		if i == must || r.IntN(3) == 0 {
			x.Vers[i].S = append(x.Vers[i].S, s)
		}
	}
	return x
}

// check holds Check against the words.
func check(t *testing.T, x api.Space) {
	t.Helper()
	want := api.OK
	if !mayBe(x) {
		want = api.ErrArg
	}
	if e := space.Check(x); e != want {
		t.Fatalf("%v: got %d, want %d", x, e, want)
	}
}

// P18.1: New has all sectors free but the first two, and one version, of generation 0, that needs nothing.
func TestNew(t *testing.T) {
	for size := -3; size <= 8195; size++ {
		x, e := space.New(size)
		if size < 3 || size > 8192 {
			if e != api.ErrArg || !bare(x) {
				t.Errorf("%d: got %v, %d", size, x, e)
			}
			continue
		}
		want := api.Space{X: api.Extents{Size: size, Free: []api.Extent{of(2, size-2)}}, Vers: []api.Version{ver(0)}}
		if e != api.OK || !alike(x, want) || space.Check(x) != api.OK {
			t.Errorf("%d: got %v, %d", size, x, e)
		}
	}
	for _, size := range []int{math.MinInt, math.MinInt32, math.MaxInt32, math.MaxInt} {
		if x, e := space.New(size); e != api.ErrArg || !bare(x) {
			t.Errorf("%d: got %v, %d", size, x, e)
		}
	}
}

// P18.1: Check is OK of all space of few sectors that may be, and of some by chance.
func TestCheck(t *testing.T) {
	n := 0
	tell := func(x api.Space) {
		n++
		if !mayBe(x) || space.Check(x) != api.OK {
			t.Fatalf("%v: got %d", x, space.Check(x))
		}
	}
	for size := 3; size <= 6; size++ {
		eachSpace(size, 1, tell)
		eachSpace(size, 2, tell)
	}
	eachSpace(5, 3, tell)
	r := rand.New(rand.NewPCG(18, 1))
	for range 300 {
		tell(chance(r, 3+r.IntN(200), 1+r.IntN(65)))
	}
	tell(sample())
	tell(chance(r, 8192, 65))
	if n < 10000 {
		t.Errorf("just %d", n)
	}
}

// extents are such as may be, and may not, of so many sectors.
func extents(size int) []api.Extent {
	var l []api.Extent
	for at := -1; at <= size; at++ {
		for n := -1; n <= size+1; n++ {
			l = append(l, of(at, n))
		}
	}
	for _, far := range []int{math.MinInt, math.MaxInt} {
		l = append(l, of(far, 1), of(2, far), of(far, far), of(size-1, far), of(far, -far))
	}
	return l
}

// lists are all lists of extents of space.
func lists(x *api.Space) []*[]api.Extent {
	l := []*[]api.Extent{&x.X.Free, &x.Out, &x.Queue}
	for i := range x.Vers {
		l = append(l, &x.Vers[i].S)
	}
	return l
}

// eachOther goes through space in which one extent is another one, is not there, is there twice, changes its place with the next one, or is there too, anywhere.
func eachOther(x api.Space, do func(api.Space)) {
	for k, l := range lists(&x) {
		change := func(by func([]api.Extent) []api.Extent) {
			y := deep(x)
			m := lists(&y)[k]
			*m = by(*m)
			do(y)
		}
		for i := range *l {
			for _, s := range extents(x.X.Size) {
				change(func(l []api.Extent) []api.Extent { l[i] = s; return l })
			}
			change(func(l []api.Extent) []api.Extent { return slices.Delete(l, i, i+1) })
			change(func(l []api.Extent) []api.Extent { return slices.Insert(l, i, l[i]) })
			j := (i + 1) % len(*l)
			change(func(l []api.Extent) []api.Extent { l[i], l[j] = l[j], l[i]; return l })
		}
		for i := range len(*l) + 1 {
			for _, s := range extents(x.X.Size) {
				change(func(l []api.Extent) []api.Extent { return slices.Insert(l, i, s) })
			}
		}
	}
}

// P18.1: with any extent another one, or one more, or one less, it may be as the words say: each sector is just of one thing, in order.
func TestCheckExtents(t *testing.T) {
	n, wrong := 0, 0
	all := func(x api.Space) {
		if n++; n%7 == 0 {
			eachOther(x, func(y api.Space) {
				if !mayBe(y) {
					wrong++
				}
				check(t, y)
			})
		}
	}
	for vers := range 3 {
		eachSpace(4, vers+1, all)
		eachSpace(5, vers+1, all)
	}
	n = 6
	all(sample())
	if wrong < 100000 {
		t.Errorf("just %d", wrong)
	}
}

// eachGen goes through space in which one generation, or how often it is pinned, is another one, or one version, or pin, is not there, is there twice, or changes its place with the next one.
func eachGen(x api.Space, do func(api.Space)) {
	change := func(by func(*api.Space)) {
		y := deep(x)
		by(&y)
		do(y)
	}
	for i := range x.Vers {
		for _, g := range gens(x) {
			change(func(y *api.Space) { y.Vers[i].Gen = g })
		}
		change(func(y *api.Space) { y.Vers = slices.Delete(y.Vers, i, i+1) })
		change(func(y *api.Space) { y.Vers = slices.Insert(y.Vers, i, y.Vers[i]) })
		j := (i + 1) % len(x.Vers)
		change(func(y *api.Space) { y.Vers[i], y.Vers[j] = y.Vers[j], y.Vers[i] })
	}
	for i := range x.Pins {
		for _, g := range gens(x) {
			change(func(y *api.Space) { y.Pins[i].Gen = g })
			change(func(y *api.Space) { y.Pins = slices.Insert(y.Pins, i, pin(g, 1)) })
		}
		for _, n := range []int{math.MinInt, -1, 0, 1, 2, 64, 65, math.MaxInt} {
			change(func(y *api.Space) { y.Pins[i].N = n })
		}
		change(func(y *api.Space) { y.Pins = slices.Delete(y.Pins, i, i+1) })
		j := (i + 1) % len(x.Pins)
		change(func(y *api.Space) { y.Pins[i], y.Pins[j] = y.Pins[j], y.Pins[i] })
	}
	for _, g := range gens(x) {
		change(func(y *api.Space) { y.Pins = append(y.Pins, pin(g, 1)) })
		change(func(y *api.Space) { y.Vers = append(y.Vers, ver(g)) })
		if len(x.Vers) > 0 {
			change(func(y *api.Space) { y.Vers = append(y.Vers, ver(g, y.Vers[0].S...)) })
		}
	}
}

// gens are generations at and beyond their edges, and those of versions, with the ones ahead of them, and behind.
func gens(x api.Space) []uint64 {
	l := []uint64{0, 1, 5, 1<<40 - 1, 1 << 40, 1<<40 + 1, 1 << 63, math.MaxUint64}
	for _, v := range x.Vers {
		l = append(l, v.Gen, v.Gen+1, v.Gen-1)
	}
	return l
}

// P18.1: with any generation, or pin, another one, it may be as the words say.
func TestCheckGens(t *testing.T) {
	n := 0
	for vers := range 3 {
		eachSpace(4, vers+1, func(x api.Space) {
			if n++; n%3 == 0 {
				eachGen(x, func(y api.Space) { check(t, y) })
			}
		})
	}
	eachGen(sample(), func(y api.Space) { check(t, y) })
}

// P18.1: it has 3 to 8192 sectors, whatever its other parts are.
func TestCheckSize(t *testing.T) {
	for _, size := range []int{math.MinInt, -1, 0, 1, 2, 3, 4, 5, 8191, 8192, 8193, 10000, math.MaxInt} {
		x := api.Space{X: api.Extents{Size: size}, Vers: []api.Version{ver(0)}}
		check(t, x)
		for _, s := range []api.Extent{of(0, 1), of(0, 2), of(2, 1), of(2, 6), of(2, 8189), of(2, 8190), of(2, 8191)} {
			for k := range lists(&x) {
				y := deep(x)
				*lists(&y)[k] = []api.Extent{s}
				check(t, y)
			}
		}
	}
	check(t, api.Space{})
	check(t, api.Space{X: api.Extents{Size: 3, Free: row(2)}})
}

// P18.1: the first two sectors are of nothing, whatever that might be.
func TestCheckFirst(t *testing.T) {
	for _, s := range []api.Extent{of(0, 1), of(0, 2), of(1, 1), of(0, 3), of(1, 2)} {
		for k := range 4 {
			x := api.Space{X: api.Extents{Size: 3}, Vers: []api.Version{ver(0)}}
			l := lists(&x)[k]
			*l = append(*l, s)
			if s.At+s.Len < 3 {
				x.Queue = append(x.Queue, of(2, 1))
			}
			if e := space.Check(x); e != api.ErrArg {
				t.Errorf("%v: got %d", x, e)
			}
		}
	}
}

// P18.1: a sector is of just one extent, though of many versions: of two that begin, or end, together, or one of which lies in the other, just the same one will do.
func TestCheckSameExtent(t *testing.T) {
	for _, a := range extents(6) {
		for _, b := range extents(6) {
			x := api.Space{X: api.Extents{Size: 6}, Pins: []api.Pin{pin(1, 1)}, Vers: []api.Version{ver(1, a), ver(2, b)}}
			for at := 2; at < 6; at++ {
				if (at < a.At || at >= a.At+a.Len) && (at < b.At || at >= b.At+b.Len) {
					x.Queue = append(x.Queue, of(at, 1))
				}
			}
			check(t, x)
			x.Vers, x.Pins = append(x.Vers, ver(3, a)), append(x.Pins, pin(2, 1))
			check(t, x)
		}
	}
}

// P18.1: there may be 65 versions, if 64 are pinned, and no more.
func TestCheckMany(t *testing.T) {
	for _, n := range []int{1, 2, 63, 64, 65, 66, 200} {
		for _, pinned := range []int{max(n-2, 0), n - 1, n, n + 1} {
			x, _ := space.New(10)
			x.Vers = nil
			for i := range n {
				x.Vers = append(x.Vers, ver(uint64(10+i)))
			}
			for i := range pinned {
				x.Pins = append(x.Pins, pin(uint64(10+i), 1))
			}
			check(t, x)
			if want := n <= 65 && pinned <= 64 && (pinned == n || pinned == n-1); (space.Check(x) == api.OK) != want {
				t.Errorf("%d, %d pinned: got %v", n, pinned, !want)
			}
		}
	}
}

// P18.1: Used are the sectors from 2 on that are not free; New has none such.
func TestUsed(t *testing.T) {
	hold := func(x api.Space) {
		want, wantE := wantUsed(x)
		if n, e := space.Used(x); n != want || e != wantE {
			t.Fatalf("%v: got %d, %d, want %d, %d", x, n, e, want, wantE)
		}
	}
	for size := 3; size <= 6; size++ {
		eachSpace(size, 1, hold)
	}
	eachSpace(5, 2, hold)
	r := rand.New(rand.NewPCG(18, 11))
	for range 200 {
		hold(chance(r, 3+r.IntN(300), 5))
	}
	eachOther(sample(), hold)
	if n, e := space.Used(sample()); n != 12 || e != api.OK {
		t.Errorf("got %d, %d", n, e)
	}
	for _, size := range []int{3, 100, 8192} {
		x, _ := space.New(size)
		if n, e := space.Used(x); n != 0 || e != api.OK {
			t.Errorf("%d: got %d, %d", size, n, e)
		}
	}
}

// P18.1: Same tells all parts apart, of space that may be, and of such that may not.
func TestSame(t *testing.T) {
	var all []api.Space
	for _, x := range []api.Space{sample(), {}, {Vers: []api.Version{ver(0)}}} {
		all = append(all, x)
		keep := func(y api.Space) { all = append(all, y) }
		y := deep(x)
		y.X.Size++
		keep(y)
		eachGen(x, keep)
		n := 0
		eachOther(x, func(y api.Space) {
			if n++; n%9 == 0 {
				keep(y)
			}
		})
	}
	for i, x := range all {
		if !space.Same(x, deep(x)) {
			t.Fatalf("%v is not the same as itself", x)
		}
		for _, y := range all[i:] {
			if space.Same(x, y) != alike(x, y) || space.Same(y, x) != alike(x, y) {
				t.Fatalf("%v, %v: got %v, %v", x, y, space.Same(x, y), space.Same(y, x))
			}
		}
	}
}
