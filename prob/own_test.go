package prob_test

import (
	"slices"
	"testing"

	"tansy/api"
	"tansy/prob"
)

// scribble writes into chances, and into the room behind them.
func scribble(l []int) {
	l = l[:cap(l)]
	for i := range l {
		l[i] = -7
	}
}

// scrawl writes into bits, and into the room behind them.
func scrawl(l []api.Bit) {
	l = l[:cap(l)]
	for i := range l {
		l[i] = api.Bit{At: -7, B: !l[i].B}
	}
}

func learn(t *testing.T, l []int, b []api.Bit) []int {
	t.Helper()
	got, e := prob.All(l, b)
	if e != api.OK {
		t.Fatalf("got %d", e)
	}
	return got
}

// R2: New's answers are each the caller's own.
func TestOwnNew(t *testing.T) {
	for _, n := range []int{0, 1, 2, 528, 1024} {
		got, _ := prob.New(n)
		other, _ := prob.New(n)
		scribble(other)
		if !slices.Equal(got, even(n)) {
			t.Errorf("%d: got %v", n, got)
		}
		scribble(got)
		if l, e := prob.New(n); !slices.Equal(l, even(n)) || e != api.OK {
			t.Errorf("%d: got %v, %d", n, l, e)
		}
	}
}

// R2: All changes neither what it is handed, nor what it answered, whoever writes into what was handed in, or into another answer; not even if there are no bits.
func TestOwnAll(t *testing.T) {
	for _, n := range []int{1, 2, 9, 528, 1024} {
		for _, k := range []int{0, 1, 30} {
			was, seen := chances(11, n), bits(11, k, n)
			l, b := slices.Clone(was), slices.Clone(seen)
			got, other := learn(t, l, b), learn(t, l, b)
			if !slices.Equal(l, was) || !slices.Equal(b, seen) {
				t.Errorf("%d, %d: what was handed in is another one", n, k)
			}
			scribble(other)
			if !slices.Equal(l, was) || !slices.Equal(got, all(was, seen)) {
				t.Errorf("%d, %d: got %v behind a scribble into another answer", n, k, got)
			}
			scribble(l)
			scrawl(b)
			if !slices.Equal(got, all(was, seen)) {
				t.Errorf("%d, %d: got %v behind a scribble into what was handed in", n, k, got)
			}
		}
	}
}

// R2: behind an error too what was handed in is as it was.
func TestOwnWrong(t *testing.T) {
	l, b := chances(12, 5), append(bits(12, 20, 5), api.Bit{At: 5})
	if _, e := prob.All(l, b); e != api.ErrNone {
		t.Errorf("got %d", e)
	}
	if !slices.Equal(l, chances(12, 5)) || !slices.Equal(b, append(bits(12, 20, 5), api.Bit{At: 5})) {
		t.Errorf("%v, %v were handed in", l, b)
	}
	l = append(chances(12, 5), 30)
	if _, e := prob.All(l, b); e != api.ErrArg {
		t.Errorf("got %d", e)
	}
	if !slices.Equal(l, append(chances(12, 5), 30)) {
		t.Errorf("%v were handed in", l)
	}
}

// R2: room behind a list that is handed in is the caller's too: no call writes there, and what stands there is not of the list.
func TestRoomBehind(t *testing.T) {
	l := append(chances(13, 9), -1, 5000, -1)
	b := append(bits(13, 9, 1), api.Bit{At: -1}, api.Bit{At: 9})
	wasL, wasB := slices.Clone(l), slices.Clone(b)
	for n := 1; n < 10; n++ {
		for k := range 10 {
			if e := prob.Check(l[:n]); e != api.OK {
				t.Errorf("%d: got %d", n, e)
			}
			got := learn(t, l[:n], b[:k])
			if want := all(wasL[:n], wasB[:k]); !slices.Equal(got, want) {
				t.Errorf("%d, %d: got %v, want %v", n, k, got, want)
			}
			_ = append(got, 77)
			scribble(got)
			if !slices.Equal(l, wasL) || !slices.Equal(b, wasB) {
				t.Fatalf("%d, %d: %v, %v were handed in", n, k, l, b)
			}
		}
	}
}

// R3: no chances, and an empty list of them, are the same; so are no bits.
func TestNothing(t *testing.T) {
	for _, l := range [][]int{nil, {}, chances(14, 4)[:0]} {
		if e := prob.Check(l); e != api.OK {
			t.Errorf("got %d", e)
		}
		for _, b := range [][]api.Bit{nil, {}, bits(14, 4, 4)[:0]} {
			if got, e := prob.All(l, b); len(got) != 0 || e != api.OK {
				t.Errorf("got %v, %d", got, e)
			}
		}
		if got, e := prob.All(l, []api.Bit{{At: 0}}); len(got) != 0 || e != api.ErrNone {
			t.Errorf("got %v, %d", got, e)
		}
	}
}

// R1, R5: asked again, and behind calls that end with an error, each call answers the same; nothing is kept.
func TestAgain(t *testing.T) {
	l, b := chances(15, 30), bits(15, 400, 30)
	want := all(l, b)
	for range 3 {
		prob.All(l, []api.Bit{{At: 0, B: true}, {At: 30}})
		prob.All(append(slices.Clone(l), 2018), b)
		prob.Learn(30, true)
		prob.Split(1, 1)
		prob.New(-1)
		p, e := prob.Learn(1024, true)
		part, f := prob.Split(1<<24, 1024)
		even, g := prob.New(30)
		if p != 992 || e != api.OK || part != 1<<23 || f != api.OK || len(even) != 30 || g != api.OK || !slices.Equal(learn(t, l, b), want) {
			t.Errorf("got another answer: %d, %d, %d, %d, %d, %d", p, e, part, f, len(even), g)
		}
	}
}
