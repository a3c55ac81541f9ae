package space_test

import (
	"slices"
	"sync"
	"testing"

	"tansy/api"
	"tansy/space"
)

// changes are all calls that answer space, by arguments at which they change each part of the sample, and by such at which they are errors.
func changes() []func(api.Space) (api.Space, api.Errno) {
	type change = func(api.Space) (api.Space, api.Errno)
	var all []change
	for n := range 5 {
		all = append(all, func(x api.Space) (api.Space, api.Errno) {
			_, y, e := space.Take(x, n)
			return y, e
		})
	}
	for _, s := range []api.Extent{of(3, 2), of(8, 1), of(9, 1), of(8, 2)} {
		all = append(all, func(x api.Space) (api.Space, api.Errno) { return space.Drop(x, s) })
	}
	for _, l := range [][]api.Extent{nil, row(5), row(8, 9), {of(3, 2), of(8, 1), of(9, 1)}, {of(5, 1), of(11, 1), of(16, 2)}, row(9, 8), row(7)} {
		all = append(all, func(x api.Space) (api.Space, api.Errno) { return space.Commit(x, 12, l) })
	}
	for _, g := range []uint64{2, 4, 9, 10, 1<<40 + 1} {
		all = append(all,
			func(x api.Space) (api.Space, api.Errno) { return space.Pin(x, g) },
			func(x api.Space) (api.Space, api.Errno) { return space.Unpin(x, g) })
	}
	return append(all, space.Step)
}

// spread is room behind a list's end, so that more would be written there.
func spread[E any](l []E, more ...E) []E { return append(slices.Clone(l), more...)[:len(l)] }

// lent is a copy of space, with some more in the room behind each list.
func lent(x api.Space) api.Space {
	y := deep(x)
	for _, l := range lists(&y) {
		*l = spread(*l, of(77, 7), of(88, 8))
	}
	y.Pins = spread(y.Pins, pin(77, 7), pin(88, 8))
	y.Vers = spread(y.Vers, ver(77, of(7, 7)), ver(88, of(8, 8)))
	return y
}

// untouched takes it that what was lent is as it was, with the room behind it.
func untouched(t *testing.T, y, was api.Space) {
	t.Helper()
	if !alike(y, was) {
		t.Fatalf("got %v, it was %v", y, was)
	}
	for _, l := range lists(&y) {
		if n := len(*l); (*l)[:n+2][n] != of(77, 7) || (*l)[:n+2][n+1] != of(88, 8) {
			t.Fatalf("behind %v now %v", *l, (*l)[:n+2])
		}
	}
	if n := len(y.Pins); y.Pins[:n+2][n] != pin(77, 7) || y.Pins[:n+2][n+1] != pin(88, 8) {
		t.Fatalf("behind %v now %v", y.Pins, y.Pins[:n+2])
	}
	if n := len(y.Vers); !sameVer(y.Vers[:n+2][n], ver(77, of(7, 7))) || !sameVer(y.Vers[:n+2][n+1], ver(88, of(8, 8))) {
		t.Fatalf("behind %v now %v", y.Vers, y.Vers[:n+2])
	}
}

func sameVer(a, b api.Version) bool { return a.Gen == b.Gen && slices.Equal(a.S, b.S) }

// scribble writes into a list, and into the room behind it.
func scribble(l []api.Extent) {
	l = l[:cap(l)]
	for i := range l {
		l[i] = of(-7, -7)
	}
}

// scribbleAll writes into all lists of space, and into the room behind them.
func scribbleAll(x api.Space) {
	for _, l := range lists(&x) {
		scribble(*l)
	}
	x.Pins = x.Pins[:cap(x.Pins)]
	for i := range x.Pins {
		x.Pins[i] = pin(7777, -7)
	}
	x.Vers = x.Vers[:cap(x.Vers)]
	for i := range x.Vers {
		x.Vers[i] = ver(7777)
	}
}

// sharing are samples whose last version is the only one, or pinned, or which have nothing that waits, or is given out.
func sharing() []api.Space {
	a, b, c := sample(), sample(), sample()
	a.Vers, a.Pins = a.Vers[2:], nil
	a.Queue = append(a.Queue, of(15, 1))
	b.Pins = append(b.Pins, pin(9, 1))
	c.X.Free = []api.Extent{of(2, 3), of(6, 5), of(12, 3), of(18, 2)}
	c.Out, c.Queue = nil, nil
	return []api.Space{sample(), a, b, c}
}

// R2: no call changes what it is handed, nor what it answered, whoever writes into what was handed in behind it, or into another answer.
func TestOwn(t *testing.T) {
	for _, was := range sharing() {
		if !mayBe(was) {
			t.Fatalf("%v may not be", was)
		}
		for _, call := range changes() {
			x := lent(was)
			got, e := call(x)
			other, _ := call(x)
			untouched(t, x, was)
			kept := deep(got)
			scribbleAll(other)
			untouched(t, x, was)
			scribbleAll(x)
			if !alike(got, kept) {
				t.Fatalf("%v: got %v, %d, now %v", was, kept, e, got)
			}
		}
	}
}

// R2: no two lists of one answer share memory, nor the room behind them.
func TestOwnApart(t *testing.T) {
	for _, x := range sharing() {
		for _, call := range changes() {
			got, _ := call(x)
			for i := range lists(&got) {
				y, _ := call(x)
				all := lists(&y)
				scribble(*all[i])
				for j, l := range lists(&got) {
					if j != i && !slices.Equal(*all[j], *l) {
						t.Fatalf("%v: got %v, now %v", x, *l, *all[j])
					}
				}
			}
		}
	}
}

// R2: the list that is handed to Commit stays as it is too, and is not kept.
func TestOwnCommit(t *testing.T) {
	for _, was := range [][]api.Extent{nil, row(5), row(8, 9), {of(3, 2), of(8, 1), of(9, 1)}, row(9, 8), row(7)} {
		l := spread(was, of(77, 7), of(88, 8))
		got, e := space.Commit(sample(), 12, l)
		if room := l[:len(l)+2]; !slices.Equal(l, was) || room[len(l)] != of(77, 7) || room[len(l)+1] != of(88, 8) {
			t.Fatalf("%v: now %v", was, l[:len(l)+2])
		}
		kept := deep(got)
		scribble(l)
		if !alike(got, kept) {
			t.Fatalf("%v: got %v, %d, now %v", was, kept, e, got)
		}
	}
}

// R2: so it is of the calls that tell, and New's answers are the caller's own.
func TestOwnTold(t *testing.T) {
	for _, was := range sharing() {
		a, b := lent(was), lent(was)
		space.Check(a)
		space.Used(a)
		space.Same(a, b)
		untouched(t, a, was)
		untouched(t, b, was)
	}
	x, _ := space.New(9)
	kept := deep(x)
	y, _ := space.New(9)
	scribbleAll(y)
	if z, e := space.New(9); !alike(x, kept) || !alike(z, kept) || e != api.OK {
		t.Errorf("got %v, %v, %d", x, z, e)
	}
}

// R3: a nil list, and an empty one, are the same.
func TestNone(t *testing.T) {
	x, _ := space.New(3)
	y := deep(x)
	x.Out, x.Pins, x.Queue, x.Vers[0].S = nil, nil, nil, nil
	y.Out, y.Pins, y.Queue, y.Vers[0].S = []api.Extent{}, []api.Pin{}, []api.Extent{}, []api.Extent{}
	if !space.Same(x, y) || !space.Same(y, x) || space.Check(x) != api.OK || space.Check(y) != api.OK {
		t.Errorf("they are not")
	}
	a, e := space.Commit(x, 1, nil)
	b, f := space.Commit(y, 1, []api.Extent{})
	if !space.Same(a, b) || e != api.OK || f != api.OK {
		t.Errorf("got %v, %d, and %v, %d", a, e, b, f)
	}
	if space.Check(api.Space{X: x.X, Vers: []api.Version{}}) != api.ErrArg {
		t.Errorf("no version may be")
	}
}

// R5: asked again, and by many at once, each call answers the same.
func TestAgain(t *testing.T) {
	var all sync.WaitGroup
	for _, x := range sharing() {
		var once []api.Space
		for _, call := range changes() {
			y, _ := call(deep(x))
			once = append(once, y)
		}
		for range 4 {
			all.Go(func() {
				for i, call := range changes() {
					if y, _ := call(x); !alike(y, once[i]) {
						t.Errorf("%v: got %v, and %v", x, once[i], y)
					}
				}
			})
		}
	}
	all.Wait()
}
