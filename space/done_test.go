package space_test

import (
	"math"
	"math/rand/v2"
	"slices"
	"testing"

	"tansy/api"
	"tansy/space"
)

// like holds what was told against what the words say.
func like(t *testing.T, what string, x, got, want api.Space, e, wantE api.Errno) {
	t.Helper()
	if e != wantE || !alike(got, want) {
		t.Fatalf("%s of %v: got %v, %d, want %v, %d", what, x, got, e, want, wantE)
	}
}

// tryTake holds Take against the words.
func tryTake(t *testing.T, x api.Space, n int) {
	t.Helper()
	wantS, want, wantE := wantTake(x, n)
	s, got, e := space.Take(x, n)
	like(t, "Take", x, got, want, e, wantE)
	if s != wantS {
		t.Fatalf("%d of %v: got %v, want %v", n, x, s, wantS)
	}
}

// tryDrop holds Drop against the words.
func tryDrop(t *testing.T, x api.Space, s api.Extent) {
	t.Helper()
	want, wantE := wantDrop(x, s)
	got, e := space.Drop(x, s)
	like(t, "Drop", x, got, want, e, wantE)
}

// tryCommit holds Commit against the words.
func tryCommit(t *testing.T, x api.Space, gen uint64, l []api.Extent) {
	t.Helper()
	want, wantE := wantCommit(x, gen, l)
	got, e := space.Commit(x, gen, l)
	like(t, "Commit", x, got, want, e, wantE)
}

// tryGen holds Pin and Unpin against the words.
func tryGen(t *testing.T, x api.Space, gen uint64) {
	t.Helper()
	want, wantE := wantPin(x, gen)
	got, e := space.Pin(x, gen)
	like(t, "Pin", x, got, want, e, wantE)
	want, wantE = wantUnpin(x, gen)
	got, e = space.Unpin(x, gen)
	like(t, "Unpin", x, got, want, e, wantE)
}

// tryStep holds Step against the words.
func tryStep(t *testing.T, x api.Space) {
	t.Helper()
	want, wantE := wantStep(x)
	got, e := space.Step(x)
	like(t, "Step", x, got, want, e, wantE)
}

// things are all extents that space has, each of them once.
func things(x api.Space) []api.Extent {
	var all []api.Extent
	for _, l := range lists(&x) {
		for _, s := range *l {
			if !slices.Contains(all, s) {
				all = append(all, s)
			}
		}
	}
	return rising(all)
}

// subsets are all lists of some of those, rising.
func subsets(of []api.Extent) [][]api.Extent {
	var all [][]api.Extent
	for bits := range 1 << len(of) {
		var l []api.Extent
		for i, s := range of {
			if bits>>i&1 == 1 {
				l = append(l, s)
			}
		}
		all = append(all, l)
	}
	return all
}

// P18.2: Take and Drop are as the words say, of all space of few sectors, by all counts, and all extents.
func TestTakeAndDrop(t *testing.T) {
	hold := func(x api.Space) {
		for n := -1; n <= x.X.Size+1; n++ {
			tryTake(t, x, n)
		}
		for _, s := range extents(x.X.Size) {
			tryDrop(t, x, s)
		}
	}
	for size := 3; size <= 5; size++ {
		eachSpace(size, 1, hold)
		eachSpace(size, 2, hold)
	}
	eachSpace(4, 3, hold)
	hold(sample())
}

// P18.2: counts below 1 are ErrArg, those above what is free in one extent ErrFull, up to the ends of ints.
func TestTakeEdges(t *testing.T) {
	x := sample()
	for _, n := range []int{math.MinInt, math.MinInt32, -1, 0, 1, 2, 3, 4, 18, 20, 8192, math.MaxInt32, math.MaxInt} {
		tryTake(t, x, n)
	}
	full, _ := space.New(8192)
	for _, n := range []int{1, 8189, 8190, 8191, 8192} {
		tryTake(t, full, n)
	}
	if s, y, e := space.Take(x, 3); s != of(12, 3) || e != api.OK || !slices.Equal(y.Out, []api.Extent{of(3, 2), of(8, 1), of(9, 1), of(12, 3)}) {
		t.Errorf("got %v, %v, %d", s, y, e)
	}
	if s, y, e := space.Take(x, 2); s != of(6, 2) || e != api.OK || !slices.Equal(y.Out, []api.Extent{of(3, 2), of(6, 2), of(8, 1), of(9, 1)}) {
		t.Errorf("got %v, %v, %d", s, y, e)
	}
}

// P18.2: just what is given out is dropped: not a part of it, nor two of it at once, nor what is free, waits, or is needed.
func TestDropEdges(t *testing.T) {
	x := sample()
	for at := range 21 {
		for n := range 22 {
			s := of(at, n)
			_, e := space.Drop(x, s)
			if want := s == of(3, 2) || s == of(8, 1) || s == of(9, 1); (e == api.OK) != want || !want && e != api.ErrNone {
				t.Errorf("%v: got %d", s, e)
			}
			tryDrop(t, x, s)
		}
	}
	y, e := space.Drop(x, of(8, 1))
	if e != api.OK || !slices.Equal(y.Out, []api.Extent{of(3, 2), of(9, 1)}) || !slices.Equal(y.X.Free, []api.Extent{of(2, 1), of(6, 3), of(12, 3)}) {
		t.Errorf("got %v, %d", y, e)
	}
}

// P18.3: Commit is as the words say, of all space of few sectors, with all lists of what there is, rising or not, and with all lists of one extent.
func TestCommit(t *testing.T) {
	n := 0
	hold := func(x api.Space) {
		last := x.Vers[len(x.Vers)-1].Gen
		for _, l := range subsets(things(x)) {
			tryCommit(t, x, last+1, l)
			if len(l) > 1 {
				slices.Reverse(l)
				tryCommit(t, x, last+1, l)
			}
		}
		if n++; n%5 == 0 {
			for _, s := range extents(x.X.Size) {
				tryCommit(t, x, last+1, []api.Extent{s})
			}
		}
	}
	for size := 3; size <= 5; size++ {
		eachSpace(size, 1, hold)
		eachSpace(size, 2, hold)
	}
	eachSpace(5, 3, hold)
	hold(sample())
}

// P18.3: a generation is above the last one's, and at most 2^40; those of the others do not count.
func TestCommitGens(t *testing.T) {
	hold := func(x api.Space) {
		for _, g := range gens(x) {
			for _, l := range [][]api.Extent{nil, x.Out, x.Vers[len(x.Vers)-1].S, row(3, 2), row(2, 2), x.Queue} {
				tryCommit(t, x, g, l)
			}
		}
	}
	for vers := range 3 {
		eachSpace(4, vers+1, hold)
	}
	x := sample()
	hold(x)
	x.Vers[2].Gen = 1<<40 - 1
	hold(x)
	if _, e := space.Commit(x, 1<<40, nil); e != api.OK {
		t.Errorf("got %d", e)
	}
	x.Vers[2].Gen = 1 << 40
	hold(x)
	if _, e := space.Commit(x, 1<<40+1, nil); e != api.ErrArg {
		t.Errorf("got %d", e)
	}
}

// P18.3: what is no row is ErrArg, also if one of it is neither given out nor needed; else that is ErrNone.
func TestCommitErrors(t *testing.T) {
	x := sample()
	for _, c := range []struct {
		l    []api.Extent
		want api.Errno
	}{
		{nil, api.OK},
		{[]api.Extent{of(3, 2), of(8, 1), of(9, 1)}, api.OK},
		{[]api.Extent{of(5, 1), of(9, 1), of(11, 1), of(16, 2)}, api.OK},
		{[]api.Extent{of(9, 1), of(8, 1)}, api.ErrArg},
		{[]api.Extent{of(8, 1), of(8, 1)}, api.ErrArg},
		{[]api.Extent{of(3, 2), of(4, 1)}, api.ErrArg},
		{[]api.Extent{of(8, 1), of(20, 1)}, api.ErrArg},
		{[]api.Extent{of(2, 1), of(2, 0)}, api.ErrArg},
		{[]api.Extent{of(-1, 1)}, api.ErrArg},
		{[]api.Extent{of(math.MaxInt, math.MaxInt)}, api.ErrArg},
		{[]api.Extent{of(0, 1)}, api.ErrNone},
		{[]api.Extent{of(2, 1)}, api.ErrNone},
		{[]api.Extent{of(18, 2)}, api.ErrNone},
		{[]api.Extent{of(15, 1)}, api.ErrNone},
		{[]api.Extent{of(8, 2)}, api.ErrNone},
		{[]api.Extent{of(3, 1), of(4, 1)}, api.ErrNone},
		{[]api.Extent{of(3, 2), of(16, 1)}, api.ErrNone},
		{[]api.Extent{of(3, 2), of(19, 1)}, api.ErrNone},
	} {
		got, e := space.Commit(x, 10, c.l)
		if e != c.want || e != api.OK && !bare(got) {
			t.Errorf("%v: got %v, %d, want %d", c.l, got, e, c.want)
		}
		tryCommit(t, x, 10, c.l)
	}
}

// P18.3: a version that is not the last one any more, and not pinned, is left out; what only it needed waits, rising, behind what waited.
func TestCommitPrunes(t *testing.T) {
	y, e := space.Commit(sample(), 10, []api.Extent{of(3, 2), of(5, 1)})
	want := sample()
	want.Out = []api.Extent{of(8, 1), of(9, 1)}
	want.Vers[2] = ver(10, of(3, 2), of(5, 1))
	want.Queue = []api.Extent{of(18, 2), of(10, 1), of(11, 1)}
	like(t, "Commit", sample(), y, want, e, api.OK)
	x, _ := space.Pin(sample(), 9)
	y, e = space.Commit(x, 10, nil)
	want = sample()
	want.Pins = []api.Pin{pin(2, 1), pin(4, 3), pin(9, 1)}
	want.Vers = append(want.Vers, ver(10))
	like(t, "Commit", x, y, want, e, api.OK)
}

// P18.4: Pin and Unpin are as the words say, of all space of few sectors, by generations at and beyond their edges.
func TestPinAndUnpin(t *testing.T) {
	hold := func(x api.Space) {
		for _, g := range gens(x) {
			tryGen(t, x, g)
		}
	}
	for size := 3; size <= 5; size++ {
		eachSpace(size, 1, hold)
		eachSpace(size, 2, hold)
	}
	eachSpace(5, 3, hold)
	hold(sample())
}

// P18.4: a generation above 2^40 is of no version, so Pin is ErrNone; Unpin is ErrArg, as pins.Close is.
func TestPinBeyond(t *testing.T) {
	x := sample()
	for _, g := range []uint64{1<<40 + 1, 1 << 63, math.MaxUint64} {
		if y, e := space.Pin(x, g); e != api.ErrNone || !bare(y) {
			t.Errorf("%d: got %v, %d", g, y, e)
		}
		if y, e := space.Unpin(x, g); e != api.ErrArg || !bare(y) {
			t.Errorf("%d: got %v, %d", g, y, e)
		}
	}
	x.Vers[2].Gen = 1 << 40
	if y, e := space.Pin(x, 1<<40); e != api.OK || !slices.Equal(y.Pins, append(sample().Pins, pin(1<<40, 1))) {
		t.Errorf("got %v, %d", y, e)
	}
	if y, e := space.Unpin(x, 1<<40); e != api.ErrNone || !bare(y) {
		t.Errorf("got %v, %d", y, e)
	}
}

// P18.4: what was pinned once, and is not the last one, is left out when it is read no more; what it shares with others is needed still.
func TestUnpinPrunes(t *testing.T) {
	y, e := space.Unpin(sample(), 2)
	want := sample()
	want.Vers, want.Pins = want.Vers[1:], want.Pins[1:]
	want.Queue = []api.Extent{of(18, 2), of(10, 1), of(15, 1)}
	like(t, "Unpin", sample(), y, want, e, api.OK)
	x, e := sample(), api.OK
	for range 3 {
		if x, e = space.Unpin(x, 4); e != api.OK {
			t.Fatalf("got %d", e)
		}
	}
	want = sample()
	want.Vers, want.Pins = []api.Version{want.Vers[0], want.Vers[2]}, want.Pins[:1]
	like(t, "Unpin", sample(), x, want, e, api.OK)
}

// many is space of so many versions, each of which needs three sectors alone, and one together with all; all but the last one are pinned.
func many(vers int) api.Space {
	x := api.Space{X: api.Extents{Size: 3 + 3*vers}}
	for i := range vers {
		at := 3 + 3*i
		x.Vers = append(x.Vers, ver(uint64(10+i), of(2, 1), of(at, 1), of(at+1, 2)))
		x.Pins = append(x.Pins, pin(uint64(10+i), 1))
	}
	x.Pins = x.Pins[:vers-1]
	return x
}

// P18.4: of 65 versions, 64 of which are pinned, the last one can not be; nor can one be that is pinned 64 times.
func TestPinFull(t *testing.T) {
	x := many(65)
	if y, e := space.Pin(x, 74); e != api.ErrFull || !bare(y) {
		t.Errorf("got %v, %d", y, e)
	}
	for g := range uint64(90) {
		tryGen(t, x, g)
	}
	y, e := space.Unpin(x, 40)
	if z, f := space.Pin(y, 74); e != api.OK || f != api.OK || len(z.Pins) != 64 {
		t.Errorf("got %v, %d, %d", z, e, f)
	}
	x.Pins[7].N = 63
	x, e = space.Pin(x, 17)
	if z, f := space.Pin(x, 17); e != api.OK || f != api.ErrFull || !bare(z) {
		t.Errorf("got %v, %d, %d", z, e, f)
	}
}

// P18.3, P18.4: with 64 versions pinned, and one more, a commit leaves that one out; with 64, all of them pinned, it is the 65th.
func TestCommitFull(t *testing.T) {
	for _, vers := range []int{64, 65} {
		x := many(vers)
		tryCommit(t, x, 1000, nil)
		tryCommit(t, x, 1000, row(2))
	}
	x, e := space.Pin(many(64), 73)
	y, f := space.Commit(x, 74, nil)
	if e != api.OK || f != api.OK || len(y.Vers) != 65 || space.Check(y) != api.OK {
		t.Errorf("got %v, %d, %d", y, e, f)
	}
	tryCommit(t, x, 74, nil)
}

// P18.5: Step is as the words say, of all space of few sectors: the first one that waits is free, whichever comes first.
func TestStep(t *testing.T) {
	hold := func(x api.Space) { tryStep(t, x) }
	for size := 3; size <= 5; size++ {
		for vers := range 3 {
			eachSpace(size, vers+1, hold)
		}
	}
	eachSpace(6, 1, hold)
	x := sample()
	for _, want := range [][]api.Extent{row(10), nil} {
		hold(x)
		y, e := space.Step(x)
		if e != api.OK || !slices.Equal(y.Queue, want) {
			t.Fatalf("got %v, %d", y, e)
		}
		x = y
	}
	if !slices.Equal(x.X.Free, []api.Extent{of(2, 1), of(6, 2), of(10, 1), of(12, 3), of(18, 2)}) {
		t.Errorf("got %v", x)
	}
	if y, e := space.Step(x); e != api.ErrNone || !bare(y) {
		t.Errorf("got %v, %d", y, e)
	}
}

// P18.2 to P18.5: all calls are as the words say of space by chance.
func TestByChance(t *testing.T) {
	r := rand.New(rand.NewPCG(18, 2))
	for range 1000 {
		x := chance(r, 3+r.IntN(80), 1+r.IntN(8))
		for n := range 10 {
			tryTake(t, x, n)
		}
		for _, s := range things(x) {
			tryDrop(t, x, s)
		}
		for _, v := range x.Vers {
			tryGen(t, x, v.Gen)
		}
		tryStep(t, x)
		last := x.Vers[len(x.Vers)-1]
		mayBe := rising(slices.Concat(x.Out, last.S))
		for range 5 {
			l := slices.Clone(mayBe)
			l = slices.DeleteFunc(l, func(api.Extent) bool { return r.IntN(3) == 0 })
			tryCommit(t, x, last.Gen+1+r.Uint64N(5), l)
		}
	}
}

// bad holds all calls against ErrArg, if space may not be.
func bad(t *testing.T, x api.Space) {
	t.Helper()
	if mayBe(x) {
		return
	}
	if s, y, e := space.Take(x, 1); e != api.ErrArg || s != of(0, 0) || !bare(y) {
		t.Fatalf("Take %v: got %v, %v, %d", x, s, y, e)
	}
	for what, call := range changes() {
		if y, e := call(x); e != api.ErrArg || !bare(y) {
			t.Fatalf("%d of %v: got %v, %d", what, x, y, e)
		}
	}
	if n, e := space.Used(x); e != api.ErrArg || n != 0 {
		t.Fatalf("Used %v: got %d, %d", x, n, e)
	}
	if e := space.Check(x); e != api.ErrArg {
		t.Fatalf("%v: got %d", x, e)
	}
}

// ErrArg of all calls, and R1: each call ends at space that may not be, and all else is zero then.
func TestBad(t *testing.T) {
	n := 0
	some := func(x api.Space) {
		if n++; n%3 == 0 {
			bad(t, x)
		}
	}
	eachOther(sample(), some)
	eachGen(sample(), some)
	eachSpace(4, 2, func(x api.Space) {
		eachOther(x, some)
		eachGen(x, some)
	})
	bad(t, api.Space{})
	bad(t, api.Space{X: api.Extents{Size: 3, Free: row(2)}})
	bad(t, api.Space{X: api.Extents{Size: 2}, Vers: []api.Version{ver(0)}})
	bad(t, api.Space{X: api.Extents{Size: math.MaxInt, Free: []api.Extent{of(2, math.MaxInt)}}, Vers: []api.Version{ver(0)}})
}

// P18.3: of 10 sectors, 3 taken, and committed as 1's: 3 are used.
func TestExample(t *testing.T) {
	x, e := space.New(10)
	s, x, f := space.Take(x, 3)
	if e != api.OK || f != api.OK || s != of(2, 3) {
		t.Fatalf("got %v, %v, %d, %d", s, x, e, f)
	}
	x, e = space.Commit(x, 1, []api.Extent{s})
	want := api.Space{X: api.Extents{Size: 10, Free: []api.Extent{of(5, 5)}}, Vers: []api.Version{ver(1, s)}}
	like(t, "Commit", x, x, want, e, api.OK)
	if n, e := space.Used(x); n != 3 || e != api.OK {
		t.Errorf("got %d, %d", n, e)
	}
}
