package pins_test

import (
	"slices"
	"sync"
	"testing"

	"tansy/api"
	"tansy/pins"
)

// calls are both that answer pins.
func calls() []func([]api.Pin, uint64) ([]api.Pin, api.Errno) {
	return []func([]api.Pin, uint64) ([]api.Pin, api.Errno){pins.Open, pins.Close}
}

// scribble writes into a list, and into the room behind it.
func scribble(l []api.Pin) {
	l = l[:cap(l)]
	for i := range l {
		l[i] = api.Pin{Gen: 77777, N: -7}
	}
}

// lent is a copy of a list, with two others in the room behind it.
func lent(l []api.Pin) []api.Pin {
	return append(slices.Clone(l), api.Pin{Gen: 88, N: 8}, api.Pin{Gen: 99, N: 9})[:len(l)]
}

// untouched takes it that what was lent is as it was, with the room behind it.
func untouched(t *testing.T, l, was []api.Pin) {
	t.Helper()
	if !slices.Equal(l, was) {
		t.Fatalf("got %v, it was %v", l, was)
	}
	if room := l[:len(l)+2]; room[len(l)] != (api.Pin{Gen: 88, N: 8}) || room[len(l)+1] != (api.Pin{Gen: 99, N: 9}) {
		t.Fatalf("%v: behind it now %v", l, room[len(l):])
	}
}

// scripts are pins, and lists that are none.
func scripts() [][]api.Pin {
	return [][]api.Pin{nil, {pin(2, 1)}, {pin(2, 64)}, {pin(2, 1), pin(4, 2), pin(6, 64)}, row(63, 1, 1), row(64, 1, 2), row(65, 1, 1), {pin(4, 1), pin(2, 1)}, {pin(2, 0)}}
}

// R2: no call changes what it is handed, nor what it answered, whoever writes into what was handed in behind it, or into another answer.
func TestOwn(t *testing.T) {
	for _, was := range scripts() {
		for g := range uint64(70) {
			for _, call := range calls() {
				l := lent(was)
				got, e := call(l, g)
				other, _ := call(l, g)
				kept := slices.Clone(got)
				untouched(t, l, was)
				scribble(other)
				untouched(t, l, was)
				scribble(l)
				if !slices.Equal(got, kept) {
					t.Fatalf("%v, %d: got %v, %d, now %v", was, g, kept, e, got)
				}
			}
		}
	}
}

// R2: so it is of the calls that tell.
func TestOwnTold(t *testing.T) {
	for _, was := range scripts() {
		a, b := lent(was), lent(was)
		pins.Check(a)
		pins.Least(a)
		pins.Same(a, b)
		for g := range uint64(70) {
			pins.Many(a, g)
		}
		untouched(t, a, was)
		untouched(t, b, was)
	}
}

// R3: a nil list, and an empty one, are the same.
func TestNone(t *testing.T) {
	empty := []api.Pin{}
	if !pins.Same(nil, empty) || !pins.Same(empty, nil) || pins.Check(nil) != api.OK || pins.Check(empty) != api.OK {
		t.Errorf("they are not")
	}
	for _, call := range calls() {
		a, e := call(nil, 3)
		b, f := call(empty, 3)
		if !pins.Same(a, b) || e != f {
			t.Errorf("got %v, %d, and %v, %d", a, e, b, f)
		}
	}
	last, e := pins.Close([]api.Pin{pin(3, 1)}, 3)
	if !pins.Same(last, nil) || !pins.Same(last, empty) || pins.Check(last) != api.OK || e != api.OK {
		t.Errorf("got %v, %d", last, e)
	}
}

// R5: asked again, and by many at once, each call answers the same.
func TestAgain(t *testing.T) {
	var all sync.WaitGroup
	for _, l := range scripts() {
		for range 4 {
			all.Go(func() { again(t, l) })
		}
	}
	all.Wait()
}

// again holds all calls of a list against the words.
func again(t *testing.T, l []api.Pin) {
	for g := range uint64(70) {
		got, e := pins.Open(l, g)
		if want, f := wantOpen(l, g); !same(got, want) || e != f {
			t.Errorf("%v, %d: got %v, %d", l, g, got, e)
		}
		got, e = pins.Close(l, g)
		if want, f := wantClose(l, g); !same(got, want) || e != f {
			t.Errorf("%v, %d: got %v, %d", l, g, got, e)
		}
		n, e := pins.Many(l, g)
		if arePins(l) && (n != tally(l)[g] || e != api.OK) || !arePins(l) && (n != 0 || e != api.ErrArg) {
			t.Errorf("%v, %d: got %d, %d", l, g, n, e)
		}
	}
	if got := pins.Check(l) == api.OK; got != arePins(l) {
		t.Errorf("%v: got %v", l, got)
	}
}
