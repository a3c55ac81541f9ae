package prob_test

import (
	"math"
	"math/rand/v2"
	"slices"
	"testing"

	"tansy/api"
	"tansy/prob"
)

// none are numbers that are no chances.
func none() []int {
	return []int{math.MinInt, math.MinInt + 1, -1 << 32, -2048, -1024, -31, -1, 0, 1, 29, 30, 2018, 2019, 2047, 2048, 2049, 4096, 1<<32 + 1024, math.MaxInt - 1, math.MaxInt}
}

// learned is the chance that the chapter's words say is behind a bit.
func learned(p int, b bool) int {
	if !b {
		return p + (2048-p)/32
	}
	return p - p/32
}

// all are the chances that the chapter's words say are behind bits.
func all(l []int, bits []api.Bit) []int {
	l = slices.Clone(l)
	for _, b := range bits {
		l[b.At] = learned(l[b.At], b.B)
	}
	return l
}

// even are n even chances.
func even(n int) []int {
	l := make([]int, n)
	for i := range l {
		l[i] = 1024
	}
	return l
}

// chances are so many, by chance, which follow from seed and n alone.
func chances(seed, n int) []int {
	x := rand.New(rand.NewPCG(uint64(seed), uint64(n)))
	l := make([]int, n)
	for i := range l {
		l[i] = 31 + x.IntN(1987)
	}
	return l
}

// bits are so many bits, by chance, by the first so many chances.
func bits(seed, n, places int) []api.Bit {
	x := rand.New(rand.NewPCG(uint64(seed), uint64(n)))
	l := make([]api.Bit, n)
	for i := range l {
		l[i] = api.Bit{At: x.IntN(places), B: x.IntN(3) == 0}
	}
	return l
}

// P5.1: New's chances are even, so many as are asked for.
func TestNew(t *testing.T) {
	for n := range 1025 {
		l, e := prob.New(n)
		if !slices.Equal(l, even(n)) || e != api.OK {
			t.Errorf("%d: got %v, %d", n, l, e)
		}
		if e := prob.Check(l); e != api.OK {
			t.Errorf("%d: they are none: %d", n, e)
		}
	}
}

// P5.1: below 0, and above MaxPlaces, there are none.
func TestNewWrong(t *testing.T) {
	for _, n := range []int{-1, -2, -1024, math.MinInt, 1025, 1026, 2048, 1 << 32, math.MaxInt} {
		if l, e := prob.New(n); len(l) != 0 || e != api.ErrArg {
			t.Errorf("%d: got %d chances, %d", n, len(l), e)
		}
	}
}

// P5.1: each number is a chance or none, wherever it stands.
func TestCheck(t *testing.T) {
	for p := -300; p < 4400; p++ {
		want := api.ErrArg
		if 31 <= p && p <= 2017 {
			want = api.OK
		}
		for _, l := range [][]int{{p}, {p, 1024}, {1024, p}, {31, p, 2017}, {p, p}} {
			if e := prob.Check(l); e != want {
				t.Errorf("%v: got %d, want %d", l, e, want)
			}
		}
	}
	for _, p := range none() {
		for at := range 9 {
			l := chances(1, 9)
			l[at] = p
			if e := prob.Check(l); e != api.ErrArg {
				t.Errorf("%v: got %d", l, e)
			}
		}
	}
}

// P5.1: none at all may be, and MaxPlaces, but no more.
func TestCheckMany(t *testing.T) {
	for _, c := range []struct {
		n int
		e api.Errno
	}{{0, api.OK}, {1, api.OK}, {528, api.OK}, {1023, api.OK}, {1024, api.OK}, {1025, api.ErrArg}, {1026, api.ErrArg}, {65536, api.ErrArg}} {
		for _, l := range [][]int{even(c.n), chances(2, c.n)} {
			if e := prob.Check(l); e != c.e {
				t.Errorf("%d: got %d, want %d", c.n, e, c.e)
			}
		}
	}
	for _, at := range []int{0, 1, 512, 1022, 1023} {
		l := chances(3, 1024)
		l[at] = 30
		if e := prob.Check(l); e != api.ErrArg {
			t.Errorf("none at %d: got %d", at, e)
		}
	}
}

// P5.2: chances behind bits that are known.
func TestLearnKnown(t *testing.T) {
	for _, c := range []struct{ p, off, on int }{
		{1024, 1056, 992},
		{31, 94, 31},
		{32, 95, 31},
		{33, 95, 32},
		{63, 125, 62},
		{64, 126, 62},
		{65, 126, 63},
		{992, 1025, 961},
		{993, 1025, 962},
		{1056, 1087, 1023},
		{1983, 1985, 1922},
		{1984, 1986, 1922},
		{1985, 1986, 1923},
		{2015, 2016, 1953},
		{2016, 2017, 1953},
		{2017, 2017, 1954},
	} {
		if p, e := prob.Learn(c.p, false); p != c.off || e != api.OK {
			t.Errorf("%d, not set: got %d, %d, want %d", c.p, p, e, c.off)
		}
		if p, e := prob.Learn(c.p, true); p != c.on || e != api.OK {
			t.Errorf("%d, set: got %d, %d, want %d", c.p, p, e, c.on)
		}
	}
}

// P5.2: so it is with all chances.
func TestLearn(t *testing.T) {
	for p := 31; p <= 2017; p++ {
		for _, b := range []bool{false, true} {
			if got, e := prob.Learn(p, b); got != learned(p, b) || e != api.OK {
				t.Errorf("%d, %v: got %d, %d, want %d", p, b, got, e, learned(p, b))
			}
		}
	}
}

// P5.2: what is no chance learns nothing.
func TestLearnWrong(t *testing.T) {
	for _, p := range none() {
		for _, b := range []bool{false, true} {
			if got, e := prob.Learn(p, b); got != 0 || e != api.ErrArg {
				t.Errorf("%d, %v: got %d, %d", p, b, got, e)
			}
		}
	}
}

// P5.2: chances behind bits that are known.
func TestAllKnown(t *testing.T) {
	for _, c := range []struct {
		l    []int
		bits []api.Bit
		want []int
	}{
		{nil, nil, nil},
		{[]int{}, []api.Bit{}, nil},
		{[]int{1024}, nil, []int{1024}},
		{[]int{1024}, []api.Bit{{At: 0, B: true}}, []int{992}},
		{[]int{1024}, []api.Bit{{At: 0}}, []int{1056}},
		{[]int{1024}, []api.Bit{{At: 0, B: true}, {At: 0}}, []int{1025}},
		{[]int{1024}, []api.Bit{{At: 0}, {At: 0, B: true}}, []int{1023}},
		{[]int{1024, 1024}, []api.Bit{{At: 1, B: true}}, []int{1024, 992}},
		{[]int{1024, 1024, 31}, []api.Bit{{At: 2}, {At: 0, B: true}, {At: 2}, {At: 0, B: true}}, []int{961, 1024, 155}},
		{[]int{31, 2017}, []api.Bit{{At: 0, B: true}, {At: 1}, {At: 0, B: true}, {At: 1}}, []int{31, 2017}},
	} {
		if got, e := prob.All(c.l, c.bits); !slices.Equal(got, c.want) || e != api.OK {
			t.Errorf("%v, %v: got %v, %d, want %v", c.l, c.bits, got, e, c.want)
		}
	}
}

// P5.2: All is Learn, of each bit's own chance, one after the other; so it is for all lists of up to six bits by up to three chances.
func TestAllOfFew(t *testing.T) {
	for _, l := range [][]int{{31}, {1024}, {2017}, {31, 2017}, {1000, 1048}, {32, 1024, 2016}} {
		n := 1
		for long := range 7 {
			for x := range n {
				var b []api.Bit
				for range long {
					b = append(b, api.Bit{At: x / 2 % len(l), B: x%2 == 1})
					x /= 2 * len(l)
				}
				tryAll(t, l, b)
			}
			n *= 2 * len(l)
		}
	}
}

// P5.2: so it is by chance, of few chances and of many, up to MaxPlaces; and no count of bits is too great.
func TestAllChance(t *testing.T) {
	for seed, n := range []int{1, 2, 3, 16, 256, 528, 1023, 1024} {
		for _, k := range []int{0, 1, 2, 50, 3000} {
			tryAll(t, chances(seed, n), bits(seed, k, n))
			tryAll(t, even(n), bits(seed, k, n))
		}
	}
	for _, k := range []int{api.MaxBits, api.MaxBits + 1} {
		tryAll(t, chances(9, 1024), bits(9, k, 1024))
		tryAll(t, chances(9, 1), bits(9, k, 1))
	}
}

func tryAll(t *testing.T, l []int, b []api.Bit) {
	t.Helper()
	want := all(l, b)
	if got, e := prob.All(l, b); !slices.Equal(got, want) || e != api.OK {
		t.Fatalf("%v, %d bits: got %v, %d, want %v", l, len(b), got, e, want)
	}
	step := l
	for i := 0; i < len(b) && i < 60; i++ {
		p, e := prob.Learn(step[b[i].At], b[i].B)
		if e != api.OK {
			t.Fatalf("%v: got %d", step, e)
		}
		step = slices.Clone(step)
		step[b[i].At] = p
		if got, e := prob.All(l, b[:i+1]); !slices.Equal(got, step) || e != api.OK {
			t.Fatalf("%v, %v: got %v, %d, want %v", l, b[:i+1], got, e, step)
		}
	}
}

// P5.2: a bit by a chance that there is not is ErrNone, wherever it stands.
func TestAllNone(t *testing.T) {
	for _, n := range []int{0, 1, 2, 528, 1024} {
		for _, at := range []int{-1, -2, math.MinInt, n, n + 1, n + 1024, 1 << 32, -1 << 32, math.MaxInt} {
			for _, b := range []bool{false, true} {
				wrong := api.Bit{At: at, B: b}
				lists := [][]api.Bit{{wrong}, {wrong, wrong}}
				if n > 0 {
					right := bits(5, 9, n)
					lists = append(lists, append([]api.Bit{wrong}, right...), append(slices.Clone(right), wrong), slices.Concat(right, []api.Bit{wrong}, right))
				}
				for _, l := range lists {
					if got, e := prob.All(chances(6, n), l); len(got) != 0 || e != api.ErrNone {
						t.Errorf("%d by %d chances: got %v, %d", at, n, got, e)
					}
				}
			}
		}
	}
}

// P5.2: chances that may not be are ErrArg, whatever the bits are.
func TestAllWrong(t *testing.T) {
	lists := [][]int{even(1025), chances(7, 1026), even(65536)}
	for _, p := range none() {
		lists = append(lists, []int{p}, []int{p, 1024}, []int{1024, p}, append(even(1023), p), append(even(1025), p))
	}
	for _, l := range lists {
		for _, b := range [][]api.Bit{nil, {{At: 0}}, {{At: 0, B: true}, {At: 0}}, {{At: -1}}, {{At: len(l)}}, {{At: len(l) - 1}}, {{At: math.MaxInt}}} {
			if got, e := prob.All(l, b); len(got) != 0 || e != api.ErrArg {
				t.Errorf("%d chances, the last one %d, %v: got %d chances, %d", len(l), l[len(l)-1], b, len(got), e)
			}
		}
	}
}

// spans are some that are split: the least one and the greatest one, what is beside a 2048th of them, and some by chance.
func spans() []uint32 {
	l := []uint32{1 << 24, 1<<24 + 1, 1<<24 + 2046, 1<<24 + 2047, 1<<24 + 2048, 1<<25 - 1, 1 << 25, 1<<31 - 1, 1 << 31, 1<<32 - 2049, 1<<32 - 2048, 1<<32 - 2, 1<<32 - 1}
	x := rand.New(rand.NewPCG(8, 8))
	for range 30 {
		l = append(l, 1<<24+x.Uint32N(1<<32-1<<24))
	}
	return l
}

// P5.3: parts that are known.
func TestSplitKnown(t *testing.T) {
	for _, c := range []struct {
		span uint32
		p    int
		want uint32
	}{
		{16777216, 1024, 8388608},
		{16777216, 31, 253952},
		{16777216, 2017, 16523264},
		{16777217, 1024, 8388608},
		{16779263, 1024, 8388608},
		{16779264, 1024, 8389632},
		{4294967295, 1024, 2147482624},
		{4294967295, 31, 65011681},
		{4294967295, 2017, 4229953567},
		{4294965248, 1024, 2147482624},
		{4294965247, 1024, 2147481600},
	} {
		if got, e := prob.Split(c.span, c.p); got != c.want || e != api.OK {
			t.Errorf("%d by %d: got %d, %d, want %d", c.span, c.p, got, e, c.want)
		}
	}
}

// P5.3: a part is a 2048th, rounded down, p times, for each chance.
func TestSplit(t *testing.T) {
	for _, span := range spans() {
		want := uint64(span) / 2048 * 30
		for p := 31; p <= 2017; p++ {
			want += uint64(span) / 2048
			if got, e := prob.Split(span, p); uint64(got) != want || e != api.OK {
				t.Fatalf("%d by %d: got %d, %d, want %d", span, p, got, e, want)
			}
		}
	}
}

// P5.3: a span that is too small is not split, nor is one by what is no chance.
func TestSplitWrong(t *testing.T) {
	for _, span := range []uint32{0, 1, 2047, 2048, 1 << 16, 1<<24 - 2048, 1<<24 - 2, 1<<24 - 1} {
		for _, p := range append(none(), 31, 1024, 2017) {
			if got, e := prob.Split(span, p); got != 0 || e != api.ErrArg {
				t.Errorf("%d by %d: got %d, %d", span, p, got, e)
			}
		}
	}
	for _, span := range spans() {
		for _, p := range none() {
			if got, e := prob.Split(span, p); got != 0 || e != api.ErrArg {
				t.Errorf("%d by %d: got %d, %d", span, p, got, e)
			}
		}
	}
}
