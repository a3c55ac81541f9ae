package rank_test

import (
	"math"
	"math/rand/v2"
	"slices"
	"testing"

	"tansy/rank"
)

// sign is -1, 0 or 1, as n is below 0, 0, or above.
func sign(n int) int { return max(-1, min(1, n)) }

// byKeys is what Cmp is to answer, as the chapter's words say.
func byKeys(a, b float64) int {
	switch {
	case key(a) < key(b):
		return -1
	case key(a) > key(b):
		return 1
	}
	return 0
}

// holdCmp holds Cmp, and Same, of two against what they are to be.
func holdCmp(t *testing.T, a, b float64, want int) {
	t.Helper()
	if got := rank.Cmp(a, b); got != want {
		t.Fatalf("%x, %x: got %d, want %d", a, b, got, want)
	}
	if got := rank.Same(a, b); got != (want == 0) {
		t.Fatalf("%x, %x: got %t, want %t", a, b, got, want == 0)
	}
}

// keys are the keys of a list, the least first.
func keys(l []float64) []uint64 {
	k := make([]uint64, len(l))
	for i, f := range l {
		k[i] = key(f)
	}
	slices.Sort(k)
	return k
}

// holdOrder holds Order of a list against the words: of all keys the least one is the first, and so on, each as often as it is there.
func holdOrder(t *testing.T, l []float64) {
	t.Helper()
	got, want := rank.Order(l), keys(l)
	if len(got) != len(want) {
		t.Fatalf("got %d numbers, want %d", len(got), len(want))
	}
	for i, f := range got {
		if key(f) != want[i] {
			t.Fatalf("%d of %x: got %x, want the key %x", i, l, got, want[i])
		}
	}
}

// P12.2: Cmp and Same of all ends, by where they stand among numbers that rise; what is no number is behind all, and the same as any other that is none.
func TestCmpKnown(t *testing.T) {
	l := rising()
	for i, a := range l {
		for k, b := range l {
			holdCmp(t, a, b, sign(i-k))
		}
	}
	for _, f := range nones() {
		for _, a := range l {
			holdCmp(t, a, f, -1)
			holdCmp(t, f, a, 1)
		}
		for _, o := range nones() {
			holdCmp(t, f, o, 0)
		}
	}
}

// P12.2: Cmp and Same are by keys, of floats by chance too, and of those that are close to one another.
func TestCmp(t *testing.T) {
	l := byChance(5, 5000)
	for i, a := range l {
		for _, b := range []float64{a, -a, math.Nextafter(a, math.Inf(1)), math.Nextafter(a, math.Inf(-1)), l[(i*11+1)%len(l)]} {
			holdCmp(t, a, b, byKeys(a, b))
			holdCmp(t, b, a, byKeys(b, a))
		}
	}
}

// P12.2: lists that are known in their order, the chapter's example among them.
func TestOrderKnown(t *testing.T) {
	inf, none, minus := math.Inf(1), math.NaN(), math.Copysign(0, -1)
	for _, c := range [][2][]float64{
		{{none, inf, 1, 0, minus, -1}, {-1, minus, 0, 1, inf, none}},
		{{-1, minus, 0, 1, inf, none}, {-1, minus, 0, 1, inf, none}},
		{{0, minus}, {minus, 0}},
		{{0, minus, 0, minus, minus}, {minus, minus, minus, 0, 0}},
		{{none, -inf, none, inf}, {-inf, inf, none, none}},
		{{3, 1, 2, 3, 1}, {1, 1, 2, 3, 3}},
		{{-1, -2, -0x1p-1074, 0x1p-1074}, {-2, -1, -0x1p-1074, 0x1p-1074}},
		{{7}, {7}},
		{{none}, {none}},
		{{}, {}},
		{nil, nil},
	} {
		if got := rank.Order(c[0]); !slices.EqualFunc(got, c[1], is) {
			t.Errorf("%v: got %v, want %v", c[0], got, c[1])
		}
	}
}

// P12.2: Order of all lists of up to five of a few, so that each comes in each order, and as often as may be.
func TestOrderFew(t *testing.T) {
	few := []float64{math.Inf(-1), -1, math.Copysign(0, -1), 0, 1, math.Inf(1), math.NaN()}
	lists := [][]float64{nil}
	for at := 0; len(lists[at]) < 5; at++ {
		for _, f := range few {
			lists = append(lists, append(slices.Clone(lists[at]), f))
		}
	}
	for _, l := range lists {
		holdOrder(t, l)
	}
}

// P12.2: Order of lists by chance, long ones, and those that are in order already, or the other way round.
func TestOrder(t *testing.T) {
	x := rand.New(rand.NewPCG(6, 12))
	for n := range 200 {
		holdOrder(t, byChance(uint64(n), n))
	}
	for _, n := range []int{1000, 4096, 100000} {
		l := byChance(uint64(n), n)
		holdOrder(t, l)
		holdOrder(t, rank.Order(l))
		back := rank.Order(l)
		slices.Reverse(back)
		holdOrder(t, back)
	}
	for range 100 {
		l := all()
		x.Shuffle(len(l), func(i, k int) { l[i], l[k] = l[k], l[i] })
		holdOrder(t, l)
	}
}

// P12.2: numbers of one key are told as they stand in the list, so that what is told hangs on the list alone.
func TestOrderStays(t *testing.T) {
	for n := range 300 {
		var l []float64
		for i := range n {
			l = append(l, math.Float64frombits(0x7FF8000000000000+uint64(i*37%n)), float64(-i))
		}
		got := rank.Order(l)
		for i := range n {
			if g, w := math.Float64bits(got[n+i]), 0x7FF8000000000000+uint64(i*37%n); g != w {
				t.Fatalf("%d, %d: got %x, want %x", n, i, g, w)
			}
		}
	}
}
