package rank_test

import (
	"math"
	"math/big"
	"math/rand/v2"
	"slices"
	"testing"

	"tansy/api"
	"tansy/rank"
)

const last uint64 = 18446744073709551615

// nones are bits of what is no number: of both signs, those that are told aloud and those that are not, at all ends.
func nones() []float64 {
	var l []float64
	for _, b := range []uint64{0x7FF0000000000001, 0x7FF0000000000002, 0x7FF7FFFFFFFFFFFF, 0x7FF8000000000000, 0x7FF8000000000001, 0x7FFFFFFFFFFFFFFF} {
		l = append(l, math.Float64frombits(b), math.Float64frombits(b|1<<63))
	}
	return l
}

// rising are numbers of each kind, all ends among them; each is below the next one.
func rising() []float64 {
	up := []float64{0, 0x1p-1074, 0x2p-1074, 0x3p-1074, 0x1p-1073 + 0x1p-1022, 0x1p-1022 - 0x1p-1074, 0x1p-1022, 0x1p-1022 + 0x1p-1074, 0x1p-1021, 0x1p-1000, 0x1.8p-1000, 0x1p-600, 0.1, 0.5, 1 - 0x1p-53, 1, 1 + 0x1p-52, 1.5, 2, 3, math.Pi, 10, 0x1p53 - 1, 0x1p53, 0x1p53 + 2, 0x1p63, 0x1p64, 1e300, 0x1p1023, 0x1.8p1023, math.MaxFloat64 - 0x1p971, math.MaxFloat64, math.Inf(1)}
	slices.Sort(up)
	var l []float64
	for _, f := range slices.Backward(up) {
		l = append(l, math.Copysign(f, -1))
	}
	return append(l, up...)
}

// all are numbers of each kind, and what is none.
func all() []float64 { return append(rising(), nones()...) }

// byChance are so many floats of any bits, and such as are close to one another, which follow from seed alone.
func byChance(seed uint64, n int) []float64 {
	x := rand.New(rand.NewPCG(seed, 12))
	ends := all()
	l := make([]float64, n)
	for i := range l {
		switch x.IntN(4) {
		case 0:
			l[i] = math.Float64frombits(x.Uint64())
		case 1:
			l[i] = ends[x.IntN(len(ends))]
		case 2:
			l[i] = math.Float64frombits(math.Float64bits(ends[x.IntN(len(ends))]) + x.Uint64N(9) - 4)
		default:
			l[i] = x.NormFloat64()
		}
	}
	return l
}

// key is a float's key, as the chapter's words say, by numbers that are as wide as need be.
func key(f float64) uint64 {
	bits := math.Float64bits(f)
	wide := new(big.Int).Lsh(big.NewInt(1), 64)
	wide.Sub(wide, big.NewInt(1))
	switch {
	case bits>>52&0x7FF == 0x7FF && bits<<12 != 0:
	case bits>>63 == 0:
		wide.SetUint64(bits)
		wide.Add(wide, new(big.Int).Lsh(big.NewInt(1), 63))
	default:
		wide.Sub(wide, new(big.Int).SetUint64(bits))
	}
	if !wide.IsUint64() {
		panic("a key is wider than 64 bits")
	}
	return wide.Uint64()
}

// is tells whether two floats have the same bits, or are both no number.
func is(a, b float64) bool {
	return math.Float64bits(a) == math.Float64bits(b) || a != a && b != b
}

// P12.1: keys that are known, those at all ends among them.
func TestKeyKnown(t *testing.T) {
	for _, c := range []struct {
		f float64
		k uint64
	}{
		{math.Inf(-1), 0x000FFFFFFFFFFFFF},
		{-math.MaxFloat64, 0x0010000000000000},
		{-2, 0x3FFFFFFFFFFFFFFF},
		{-1, 0x400FFFFFFFFFFFFF},
		{-0x1p-1022, 0x7FEFFFFFFFFFFFFF},
		{-0x1p-1074, 0x7FFFFFFFFFFFFFFE},
		{math.Copysign(0, -1), 0x7FFFFFFFFFFFFFFF},
		{0, 0x8000000000000000},
		{0x1p-1074, 0x8000000000000001},
		{0x1p-1022, 0x8010000000000000},
		{1, 0xBFF0000000000000},
		{1.5, 0xBFF8000000000000},
		{2, 0xC000000000000000},
		{math.MaxFloat64, 0xFFEFFFFFFFFFFFFF},
		{math.Inf(1), 0xFFF0000000000000},
		{math.NaN(), 0xFFFFFFFFFFFFFFFF},
		{-math.NaN(), 0xFFFFFFFFFFFFFFFF},
	} {
		if got := rank.Key(c.f); got != c.k {
			t.Errorf("%x: got %x, want %x", c.f, got, c.k)
		}
	}
}

// P12.1: what is no number has one key, whatever its bits.
func TestKeyNone(t *testing.T) {
	for _, f := range nones() {
		if got := rank.Key(f); got != last {
			t.Errorf("%x: got %x", math.Float64bits(f), got)
		}
	}
	for i := range 52 {
		for _, b := range []uint64{0x7FF0000000000000, 0xFFF0000000000000} {
			if got := rank.Key(math.Float64frombits(b | 1<<i)); got != last {
				t.Errorf("%x: got %x", b|1<<i, got)
			}
		}
	}
}

// P12.1: Key of floats of each kind, and by chance.
func TestKey(t *testing.T) {
	for _, f := range append(all(), byChance(1, 20000)...) {
		if got, want := rank.Key(f), key(f); got != want {
			t.Fatalf("%x: got %x, want %x", math.Float64bits(f), got, want)
		}
	}
	for i := range 64 {
		for _, b := range []uint64{0, 1 << 63, 0x3FF0000000000000} {
			f := math.Float64frombits(b ^ 1<<i)
			if got, want := rank.Key(f), key(f); got != want {
				t.Errorf("%x: got %x, want %x", b^1<<i, got, want)
			}
		}
	}
}

// P12.1: numbers of keys that are known; at each end, and beyond it, where no number has that key, and 0 is told, which is not -0.
func TestOfKnown(t *testing.T) {
	for _, c := range []struct {
		k, bits uint64
		e       api.Errno
	}{
		{0, 0, api.ErrForm},
		{1, 0, api.ErrForm},
		{0x0007FFFFFFFFFFFF, 0, api.ErrForm},
		{0x000FFFFFFFFFFFFD, 0, api.ErrForm},
		{0x000FFFFFFFFFFFFE, 0, api.ErrForm},
		{0x000FFFFFFFFFFFFF, 0xFFF0000000000000, api.OK},
		{0x0010000000000000, 0xFFEFFFFFFFFFFFFF, api.OK},
		{0x400FFFFFFFFFFFFF, 0xBFF0000000000000, api.OK},
		{0x7FFFFFFFFFFFFFFE, 0x8000000000000001, api.OK},
		{0x7FFFFFFFFFFFFFFF, 0x8000000000000000, api.OK},
		{0x8000000000000000, 0, api.OK},
		{0x8000000000000001, 1, api.OK},
		{0xBFF0000000000000, 0x3FF0000000000000, api.OK},
		{0xFFEFFFFFFFFFFFFF, 0x7FEFFFFFFFFFFFFF, api.OK},
		{0xFFF0000000000000, 0x7FF0000000000000, api.OK},
		{0xFFF0000000000001, 0, api.ErrForm},
		{0xFFF7FFFFFFFFFFFF, 0, api.ErrForm},
		{0xFFF8000000000000, 0, api.ErrForm},
		{0xFFF8000000000001, 0, api.ErrForm},
		{0xFFFFFFFFFFFFFFFD, 0, api.ErrForm},
		{0xFFFFFFFFFFFFFFFE, 0, api.ErrForm},
		{last, math.Float64bits(math.NaN()), api.OK},
	} {
		f, e := rank.Of(c.k)
		if got := math.Float64bits(f); got != c.bits || e != c.e {
			t.Errorf("%x: got %x, %d, want %x, %d", c.k, got, e, c.bits, c.e)
		}
	}
}

// P12.1: Of a key is what has it: each float is told by its key, and a key that is of none is ErrForm.
func TestOf(t *testing.T) {
	for _, f := range append(all(), byChance(2, 20000)...) {
		if got, e := rank.Of(key(f)); !is(got, f) || e != api.OK {
			t.Fatalf("%x: got %x, %d", math.Float64bits(f), math.Float64bits(got), e)
		}
	}
	x := rand.New(rand.NewPCG(3, 12))
	for range 20000 {
		k := x.Uint64()
		switch x.IntN(4) {
		case 0:
			k |= 0xFFE << 52
		case 1:
			k &= 0x001F << 48
		case 2:
			k &= 0x001FFFFFFFFFFFFF
		}
		f, e := rank.Of(k)
		if has := k == last || k >= 0x000FFFFFFFFFFFFF && k <= 0xFFF0000000000000; has != (e == api.OK) || has && key(f) != k || !has && (e != api.ErrForm || math.Float64bits(f) != 0) {
			t.Fatalf("%x: got %x, %d", k, math.Float64bits(f), e)
		}
	}
}

// holdMid holds Mid of two against the words, by numbers as wide as need be, each half rounded, and then their sum.
func holdMid(t *testing.T, a, b float64) {
	t.Helper()
	want := math.NaN()
	switch {
	case a != a || b != b:
	case math.IsInf(a, 0) && math.IsInf(b, 0):
		if a == b {
			want = a
		}
	case math.IsInf(a, 0):
		want = a
	case math.IsInf(b, 0):
		want = b
	default:
		want = rounded(new(big.Float).SetPrec(3000).Add(half(a), half(b)))
	}
	if got := rank.Mid(a, b); !is(got, want) {
		t.Fatalf("%x, %x: got %x, want %x", a, b, got, want)
	}
}

func half(f float64) *big.Float {
	h := big.NewFloat(f)
	return big.NewFloat(rounded(h.SetMantExp(h, -1)))
}

func rounded(f *big.Float) float64 {
	got, _ := f.Float64()
	return got
}

// P12.3: middles that are known, at all ends.
func TestMidKnown(t *testing.T) {
	inf, none, minus := math.Inf(1), math.NaN(), math.Copysign(0, -1)
	for _, c := range [][3]float64{
		{1, 3, 2},
		{1, 2, 1.5},
		{-1, 1, 0},
		{-1, -3, -2},
		{0, 1, 0.5},
		{0, 0, 0},
		{0, minus, 0},
		{minus, minus, minus},
		{5, 5, 5},
		{inf, inf, inf},
		{-inf, -inf, -inf},
		{inf, -inf, none},
		{inf, 0, inf},
		{inf, 1, inf},
		{inf, -math.MaxFloat64, inf},
		{-inf, minus, -inf},
		{-inf, 1, -inf},
		{-inf, math.MaxFloat64, -inf},
		{none, none, none},
		{none, 1, none},
		{none, inf, none},
		{none, -inf, none},
		{math.MaxFloat64, math.MaxFloat64, math.MaxFloat64},
		{-math.MaxFloat64, -math.MaxFloat64, -math.MaxFloat64},
		{math.MaxFloat64, -math.MaxFloat64, 0},
		{0x1.8p1023, 0x1p1023, 0x1.4p1023},
		{1 + 0x1p-52, 1, 1},
		{1 + 0x1p-52, 1 + 0x1p-51, 1 + 0x1p-51},
		{0x1p-1000, 0x1p-1000, 0x1p-1000},
		// Half of the least number is rounded to 0, of three times that up to twice, of five times that down to twice.
		{0x1p-1074, 0x1p-1074, 0},
		{-0x1p-1074, -0x1p-1074, minus},
		{0x1p-1074, -0x1p-1074, 0},
		{0x1p-1074, minus, 0},
		{0x2p-1074, 0, 0x1p-1074},
		{0x3p-1074, 0x1p-1074, 0x2p-1074},
		{0x3p-1074, 0x3p-1074, 0x4p-1074},
		{0x5p-1074, 0x1p-1074, 0x2p-1074},
		{0x5p-1074, 0x5p-1074, 0x4p-1074},
	} {
		for _, x := range [][2]float64{{c[0], c[1]}, {c[1], c[0]}} {
			if got := rank.Mid(x[0], x[1]); !is(got, c[2]) {
				t.Errorf("%x, %x: got %x, want %x", x[0], x[1], got, c[2])
			}
		}
	}
}

// P12.3: Mid of all ends, and of floats by chance, also of those near the least ones, whose halves are rounded.
func TestMid(t *testing.T) {
	for _, a := range all() {
		for _, b := range all() {
			holdMid(t, a, b)
		}
	}
	l := byChance(4, 2000)
	for i, a := range l {
		holdMid(t, a, l[(i*7+1)%len(l)])
		holdMid(t, a, math.Nextafter(a, 0))
		holdMid(t, a, -a)
	}
	for a := range uint64(64) {
		for b := range uint64(64) {
			for _, sign := range []uint64{0, 1 << 63} {
				holdMid(t, math.Float64frombits(a), math.Float64frombits(b|sign))
				holdMid(t, math.Float64frombits(a|1<<63), math.Float64frombits(b|sign))
				holdMid(t, math.Float64frombits(a|0x10000000000000), math.Float64frombits(b|sign))
			}
		}
	}
}

// P12.3: what is no number is told whatever bits it is told by, and by the same ones each time.
func TestMidNone(t *testing.T) {
	want := math.Float64bits(rank.Mid(math.NaN(), 1))
	hold := func(a, b float64) {
		if got := rank.Mid(a, b); got == got || math.Float64bits(got) != want {
			t.Errorf("%x, %x: got %x", math.Float64bits(a), math.Float64bits(b), math.Float64bits(got))
		}
	}
	for _, f := range nones() {
		for _, o := range all() {
			hold(f, o)
			hold(o, f)
		}
	}
	hold(math.Inf(1), math.Inf(-1))
	hold(math.Inf(-1), math.Inf(1))
}
