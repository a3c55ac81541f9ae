package rank_test

import (
	"math"
	"slices"
	"sync"
	"testing"

	"tansy/api"
	"tansy/rank"
)

// bits are the bits of a list's floats, which tell what is no number apart too.
func bits(l []float64) []uint64 {
	b := make([]uint64, len(l))
	for i, f := range l {
		b[i] = math.Float64bits(f)
	}
	return b
}

// scribble writes into a list, and into the room behind it.
func scribble(l []float64) {
	l = l[:cap(l)]
	for i := range l {
		l[i] = -777
	}
}

// R2, P12.2: Order changes neither what it is handed, nor what it answered, whoever writes into what was handed in, or into another answer; not even if all is in order already.
func TestOwn(t *testing.T) {
	for n := range 70 {
		for _, was := range [][]float64{byChance(20, n), rank.Order(byChance(20, n)), slices.Repeat([]float64{1}, n)} {
			l := slices.Clone(was)
			got, other := rank.Order(l), rank.Order(l)
			if !slices.Equal(bits(l), bits(was)) {
				t.Fatalf("%x: %x was handed in", was, l)
			}
			want := bits(got)
			scribble(other)
			if !slices.Equal(bits(l), bits(was)) || !slices.Equal(bits(got), want) {
				t.Fatalf("%x: got %x behind a scribble into another answer", was, got)
			}
			scribble(l)
			if !slices.Equal(bits(got), want) {
				t.Fatalf("%x: got %x behind a scribble into what was handed in", was, got)
			}
		}
	}
}

// R2: room behind a list that is handed in is the caller's too: nothing is written there, and what stands there is not of the list.
func TestRoomBehind(t *testing.T) {
	l := byChance(21, 50)
	was := slices.Clone(l)
	for n := range l {
		got := rank.Order(l[:n])
		holdOrder(t, l[:n])
		_ = append(got, 77)
		scribble(got)
		if !slices.Equal(bits(l), bits(was)) {
			t.Fatalf("%d: %x was handed in", n, l)
		}
	}
}

// R3: no list, and an empty one, are the same.
func TestNothing(t *testing.T) {
	for _, l := range [][]float64{nil, {}, byChance(22, 4)[:0]} {
		if got := rank.Order(l); len(got) != 0 {
			t.Errorf("got %x", got)
		}
	}
}

// answers are the bits of what each call answers of two.
type answers struct {
	key, of, mid, least uint64
	cmp                 int
	same                bool
	e                   api.Errno
}

func asked(a, b float64) answers {
	var x answers
	x.key = rank.Key(a)
	f, e := rank.Of(math.Float64bits(b))
	x.of, x.e = math.Float64bits(f), e
	x.mid = math.Float64bits(rank.Mid(a, b))
	x.least = math.Float64bits(rank.Order([]float64{a, b})[0])
	x.cmp, x.same = rank.Cmp(a, b), rank.Same(a, b)
	return x
}

// R1, R5: asked again, behind calls that end with an error, and side by side with others, each call answers the same of any two; nothing is kept.
func TestAgain(t *testing.T) {
	l := append(all(), byChance(23, 400)...)
	want := make([]answers, len(l))
	for i, f := range l {
		want[i] = asked(f, l[len(l)-1-i])
	}
	var side sync.WaitGroup
	for range 8 {
		side.Go(func() {
			for range 10 {
				for i, f := range l {
					rank.Of(uint64(i))
					if got := asked(f, l[len(l)-1-i]); got != want[i] {
						t.Errorf("%x: got %v, want %v", f, got, want[i])
					}
				}
			}
		})
	}
	side.Wait()
}
