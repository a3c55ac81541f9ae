package extent_test

import (
	"math"
	"testing"

	"tansy/api"
	"tansy/extent"
)

// free is so many sectors, of which those extents are free, each told as where it is and how long.
func free(size int, l ...int) api.Extents {
	x := api.Extents{Size: size}
	for i := 0; i < len(l); i += 2 {
		x.Free = append(x.Free, api.Extent{At: l[i], Len: l[i+1]})
	}
	return x
}

func of(at, long int) api.Extent { return api.Extent{At: at, Len: long} }

// must are the extents, if there is no error.
func must(t *testing.T) func(api.Extents, api.Errno) api.Extents {
	return func(x api.Extents, e api.Errno) api.Extents {
		t.Helper()
		if e != api.OK {
			t.Fatalf("got error %d", e)
		}
		return x
	}
}

// alike holds extents against each other part by part, without extent.Same.
func alike(a, b api.Extents) bool {
	if a.Size != b.Size || len(a.Free) != len(b.Free) {
		return false
	}
	for i, f := range a.Free {
		if f.At != b.Free[i].At || f.Len != b.Free[i].Len {
			return false
		}
	}
	return true
}

func want(t *testing.T, what string, got, x api.Extents) {
	t.Helper()
	if !alike(got, x) {
		t.Errorf("%s: got %v, want %v", what, got, x)
	}
}

// zero tells whether extents are those that go with an error.
func zero(x api.Extents) bool { return x.Size == 0 && len(x.Free) == 0 }

// deep is a copy that shares nothing.
func deep(x api.Extents) api.Extents {
	return api.Extents{Size: x.Size, Free: append([]api.Extent(nil), x.Free...)}
}

// good are extents that may be, at the edges of what may.
func good() []api.Extents {
	return []api.Extents{
		free(0),
		free(1),
		free(1, 0, 1),
		free(8, 0, 8),
		free(8, 0, 1, 2, 1, 4, 4),
		free(8, 7, 1),
		free(8, 0, 7),
		free(9, 3, 2, 6, 3),
		free(api.MaxSectors),
		free(api.MaxSectors, 0, api.MaxSectors),
		free(api.MaxSectors, api.MaxSectors-1, 1),
	}
}

// bad are extents that may not be, each for one reason alone.
func bad() []api.Extents {
	return []api.Extents{
		free(-1),
		free(math.MinInt),
		free(api.MaxSectors + 1),
		free(api.MaxSectors+1, 0, 1),
		free(math.MaxInt),
		free(0, 0, 0),
		free(0, 0, 1),
		free(8, 0, 0),
		free(8, 8, 0),
		free(8, 2, -1),
		free(8, 4, math.MinInt),
		free(8, -1, 3),
		free(8, math.MinInt, 1),
		free(8, math.MinInt, math.MaxInt),
		free(8, 0, 9),
		free(8, 8, 1),
		free(8, 5, 4),
		free(8, 5, math.MaxInt),
		free(8, math.MaxInt, 1),
		free(8, math.MaxInt, math.MaxInt),
		free(8, 0, 2, 2, 2),
		free(8, 0, 2, 1, 4),
		free(8, 0, 5, 1, 2),
		free(8, 3, 2, 3, 2),
		free(8, 3, 2, 0, 2),
		free(8, 0, 1, 4, 1, 2, 1),
		free(8, 0, 1, 2, 1, 3, 1),
		free(8, 0, 1, 7, 2),
		free(8, 0, 1, 7, 0),
	}
}

// P2.1: all of so many sectors are free.
func TestNew(t *testing.T) {
	want(t, "none", must(t)(extent.New(0)), free(0))
	for _, n := range []int{1, 2, 8, api.MaxSectors - 1, api.MaxSectors} {
		want(t, "new", must(t)(extent.New(n)), free(n, 0, n))
	}
	for _, n := range []int{-1, api.MaxSectors + 1, math.MinInt, math.MaxInt} {
		if x, e := extent.New(n); e != api.ErrArg || !zero(x) {
			t.Errorf("%d: got %v, %d", n, x, e)
		}
	}
}

// P2.1: Check tells which extents may be.
func TestCheck(t *testing.T) {
	for _, x := range good() {
		if e := extent.Check(x); e != api.OK {
			t.Errorf("%v: got %d", x, e)
		}
	}
	for _, x := range bad() {
		if e := extent.Check(x); e != api.ErrArg {
			t.Errorf("%v: got %d", x, e)
		}
	}
}

// P2.1: two are the same, if all parts are, whether they may be or not.
func TestSame(t *testing.T) {
	all := append(good(), bad()...)
	for i, x := range all {
		for j, y := range all {
			if got := extent.Same(x, deep(y)); got != (i == j) {
				t.Errorf("%v, %v: got %v", x, y, got)
			}
		}
	}
	if !extent.Same(api.Extents{Size: 3}, api.Extents{Size: 3, Free: []api.Extent{}}) { // R3
		t.Error("nil is not the same as empty")
	}
	x := free(8, 0, 1, 2, 1)
	for _, y := range []api.Extents{free(9, 0, 1, 2, 1), free(8, 0, 1, 3, 1), free(8, 0, 1, 2, 2), free(8, 0, 1), free(8, 0, 1, 2, 1, 4, 1)} {
		if extent.Same(x, y) || extent.Same(y, x) {
			t.Errorf("%v is the same as %v", x, y)
		}
	}
}

// P2.1: room is how many sectors are free.
func TestRoom(t *testing.T) {
	for i, n := range []int{0, 0, 1, 8, 6, 1, 7, 5, 0, api.MaxSectors, 1} {
		if got, e := extent.Room(good()[i]); got != n || e != api.OK {
			t.Errorf("%v: got %d, %d", good()[i], got, e)
		}
	}
}

// P2.2: the first n sectors of the first free extent that has so many.
func TestTake(t *testing.T) {
	x := free(20, 1, 2, 5, 4, 10, 3, 14, 6)
	for _, c := range []struct {
		n int
		s api.Extent
		x api.Extents
	}{
		{1, of(1, 1), free(20, 2, 1, 5, 4, 10, 3, 14, 6)},
		{2, of(1, 2), free(20, 5, 4, 10, 3, 14, 6)},
		{3, of(5, 3), free(20, 1, 2, 8, 1, 10, 3, 14, 6)},
		{4, of(5, 4), free(20, 1, 2, 10, 3, 14, 6)},
		{5, of(14, 5), free(20, 1, 2, 5, 4, 10, 3, 19, 1)},
		{6, of(14, 6), free(20, 1, 2, 5, 4, 10, 3)},
	} {
		s, got, e := extent.Take(x, c.n)
		if s != c.s || e != api.OK {
			t.Errorf("%d: got %v, %d", c.n, s, e)
		}
		want(t, "behind a take", got, c.x)
	}
	for _, c := range []struct {
		x api.Extents
		n int
		e api.Errno
	}{
		{x, 7, api.ErrFull},
		{x, 15, api.ErrFull},
		{x, math.MaxInt, api.ErrFull},
		{x, 0, api.ErrArg},
		{x, -1, api.ErrArg},
		{x, math.MinInt, api.ErrArg},
		{free(0), 1, api.ErrFull},
		{free(8), 1, api.ErrFull},
		{free(8), 0, api.ErrArg},
	} {
		if s, got, e := extent.Take(c.x, c.n); e != c.e || s != of(0, 0) || !zero(got) {
			t.Errorf("%v, %d: got %v, %v, %d", c.x, c.n, s, got, e)
		}
	}
	s, all, e := extent.Take(free(api.MaxSectors, 0, api.MaxSectors), api.MaxSectors)
	if s != of(0, api.MaxSectors) || e != api.OK {
		t.Errorf("got %v, %d", s, e)
	}
	want(t, "all taken", all, free(api.MaxSectors))
}

// P2.3: Keep leaves out just those sectors.
func TestKeep(t *testing.T) {
	x := free(12, 1, 2, 4, 5, 10, 2)
	for _, c := range []struct {
		s api.Extent
		x api.Extents
	}{
		{of(1, 2), free(12, 4, 5, 10, 2)},
		{of(1, 1), free(12, 2, 1, 4, 5, 10, 2)},
		{of(2, 1), free(12, 1, 1, 4, 5, 10, 2)},
		{of(4, 5), free(12, 1, 2, 10, 2)},
		{of(4, 2), free(12, 1, 2, 6, 3, 10, 2)},
		{of(6, 3), free(12, 1, 2, 4, 2, 10, 2)},
		{of(5, 2), free(12, 1, 2, 4, 1, 7, 2, 10, 2)},
		{of(10, 2), free(12, 1, 2, 4, 5)},
		{of(11, 1), free(12, 1, 2, 4, 5, 10, 1)},
	} {
		want(t, "kept", must(t)(extent.Keep(x, c.s)), c.x)
	}
	for _, s := range []api.Extent{of(0, 1), of(0, 2), of(0, 12), of(1, 3), of(2, 2), of(2, 3), of(3, 1), of(3, 2), of(8, 2), of(9, 1), of(9, 3), of(8, 4)} {
		if got, e := extent.Keep(x, s); e != api.ErrNone || !zero(got) {
			t.Errorf("%v: got %v, %d", s, got, e)
		}
	}
}

// P2.3: Give puts those sectors in; free extents that touch are one.
func TestGive(t *testing.T) {
	x := free(16, 2, 2, 6, 3, 12, 2)
	for _, c := range []struct {
		s api.Extent
		x api.Extents
	}{
		{of(0, 1), free(16, 0, 1, 2, 2, 6, 3, 12, 2)},
		{of(0, 2), free(16, 0, 4, 6, 3, 12, 2)},
		{of(1, 1), free(16, 1, 3, 6, 3, 12, 2)},
		{of(4, 2), free(16, 2, 7, 12, 2)},
		{of(4, 1), free(16, 2, 3, 6, 3, 12, 2)},
		{of(5, 1), free(16, 2, 2, 5, 4, 12, 2)},
		{of(10, 1), free(16, 2, 2, 6, 3, 10, 1, 12, 2)},
		{of(9, 3), free(16, 2, 2, 6, 8)},
		{of(14, 2), free(16, 2, 2, 6, 3, 12, 4)},
		{of(15, 1), free(16, 2, 2, 6, 3, 12, 2, 15, 1)},
	} {
		want(t, "given", must(t)(extent.Give(x, c.s)), c.x)
	}
	for _, s := range []api.Extent{of(2, 1), of(3, 1), of(2, 2), of(1, 2), of(3, 2), of(0, 3), of(0, 16), of(5, 2), of(5, 5), of(7, 1), of(8, 3), of(9, 4), of(13, 3)} {
		if got, e := extent.Give(x, s); e != api.ErrThere || !zero(got) {
			t.Errorf("%v: got %v, %d", s, got, e)
		}
	}
	want(t, "given to none", must(t)(extent.Give(free(4), of(0, 4))), free(4, 0, 4))
}

// ErrArg of Keep and Give: an extent of so many sectors is at 0 or more, and 1 or more long, and ends with them.
func TestExtentsOfNone(t *testing.T) {
	for _, x := range []api.Extents{free(8), free(8, 0, 8), free(8, 3, 2)} {
		for _, s := range []api.Extent{of(0, 0), of(3, 0), of(8, 0), of(0, -1), of(4, math.MinInt), of(-1, 1), of(-1, 4), of(math.MinInt, 1), of(math.MinInt, math.MaxInt), of(8, 1), of(0, 9), of(7, 2), of(3, math.MaxInt), of(math.MaxInt, 1), of(math.MaxInt, math.MaxInt)} {
			if got, e := extent.Keep(x, s); e != api.ErrArg || !zero(got) {
				t.Errorf("Keep %v, %v: got %v, %d", x, s, got, e)
			}
			if got, e := extent.Give(x, s); e != api.ErrArg || !zero(got) {
				t.Errorf("Give %v, %v: got %v, %d", x, s, got, e)
			}
		}
	}
	for _, call := range []func(api.Extents, api.Extent) (api.Extents, api.Errno){extent.Keep, extent.Give} {
		if got, e := call(free(0), of(0, 1)); e != api.ErrArg || !zero(got) {
			t.Errorf("got %v, %d", got, e)
		}
	}
}

// ErrArg of all calls, and R1: each call ends at extents that may not be, and all else is zero then.
func TestBad(t *testing.T) {
	for _, x := range bad() {
		if s, got, e := extent.Take(x, 1); e != api.ErrArg || s != of(0, 0) || !zero(got) {
			t.Errorf("Take %v: got %v, %v, %d", x, s, got, e)
		}
		if got, e := extent.Keep(x, of(0, 1)); e != api.ErrArg || !zero(got) {
			t.Errorf("Keep %v: got %v, %d", x, got, e)
		}
		if got, e := extent.Give(x, of(6, 1)); e != api.ErrArg || !zero(got) {
			t.Errorf("Give %v: got %v, %d", x, got, e)
		}
		if n, e := extent.Room(x); e != api.ErrArg || n != 0 {
			t.Errorf("Room %v: got %d, %d", x, n, e)
		}
	}
}

// The chapter's example.
func TestExample(t *testing.T) {
	x := must(t)(extent.New(8))
	a, x, _ := extent.Take(x, 3)
	b, x, _ := extent.Take(x, 2)
	x = must(t)(extent.Give(x, a))
	c, x, e := extent.Take(x, 2)
	if a != of(0, 3) || b != of(3, 2) || c != of(0, 2) || e != api.OK {
		t.Errorf("got %v, %v, %v, %d", a, b, c, e)
	}
	want(t, "left", x, free(8, 2, 1, 5, 3))
}
