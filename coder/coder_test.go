package coder_test

import (
	"bytes"
	"math"
	"math/rand/v2"
	"slices"
	"testing"

	"tansy/api"
	"tansy/coder"
)

// even are n even chances.
func even(n int) []int {
	l := make([]int, n)
	for i := range l {
		l[i] = 1024
	}
	return l
}

// great is the text that the chapter's words say bits are encoded to. Till the end its octets are numbers of any size: only then what goes beyond 255 is carried.
func great(n int, bits []api.Bit) []byte {
	text, low, span, c := []uint64{0}, uint64(0), uint64(1<<32-1), even(n)
	for _, b := range bits {
		part := span / 2048 * uint64(c[b.At])
		if b.B {
			low, span = low+part, span-part
			c[b.At] -= c[b.At] / 32
		} else {
			span = part
			c[b.At] += (2048 - c[b.At]) / 32
		}
		for ; span < 1<<24; span *= 256 {
			text = append(text, low>>24)
			low = low % (1 << 24) * 256
		}
	}
	text = append(text, low>>24, low>>16%256, low>>8%256, low%256)
	b, over := make([]byte, len(text)), uint64(0)
	for i := len(text) - 1; i >= 0; i-- {
		b[i], over = byte((text[i]+over)%256), (text[i]+over)/256
	}
	return b
}

// model reads as the chapter's words say. What they say of a text's form is left to the tests.
type model struct {
	span, code uint64
	c          []int
	b          []byte
	used       int
}

func newModel(n int, b []byte) *model {
	m := &model{span: 1<<32 - 1, c: even(n), b: b, used: 5}
	for _, o := range b[1:5] {
		m.code = m.code*256 + uint64(o)
	}
	return m
}

// next is the next bit; behind an error the model is as it was.
func (m *model) next(at int) (bool, api.Errno) {
	if at < 0 || at >= len(m.c) {
		return false, api.ErrNone
	}
	n := *m
	part := n.span / 2048 * uint64(n.c[at])
	b := n.code >= part
	if b {
		n.code, n.span = n.code-part, n.span-part
	} else {
		n.span = part
	}
	for ; n.span < 1<<24; n.span *= 256 {
		if n.used == len(n.b) {
			return false, api.ErrForm
		}
		n.code = n.code*256 + uint64(n.b[n.used])
		n.used++
	}
	*m = n
	if b {
		m.c[at] -= m.c[at] / 32
	} else {
		m.c[at] += (2048 - m.c[at]) / 32
	}
	return b, api.OK
}

// random is what follows from these numbers alone.
func random(seed, n int) *rand.Rand { return rand.New(rand.NewPCG(uint64(seed), uint64(n))) }

// bits are k bits, by chance, by the first so many chances; of ten of them so many are set.
func bits(seed, k, places, set int) []api.Bit {
	x := random(seed, k)
	l := make([]api.Bit, k)
	for i := range l {
		l[i] = api.Bit{At: x.IntN(places), B: x.IntN(10) < set}
	}
	return l
}

// script is bits by chance 0, of a text of 0 and 1.
func script(s string) []api.Bit {
	var l []api.Bit
	for _, r := range s {
		l = append(l, api.Bit{B: r == '1'})
	}
	return l
}

// places are those of bits.
func places(l []api.Bit) []int {
	var at []int
	for _, b := range l {
		at = append(at, b.At)
	}
	return at
}

// values are those of bits.
func values(l []api.Bit) []bool {
	var v []bool
	for _, b := range l {
		v = append(v, b.B)
	}
	return v
}

// octets are n, by chance, behind one octet 0.
func octets(seed, n int) []byte {
	x, b := random(seed, n), make([]byte, 1+n)
	for i := range n {
		b[1+i] = byte(x.IntN(256))
	}
	return b
}

// wrong are numbers of chances that there may not be.
func wrong() []int {
	return []int{-1, -2, -1024, math.MinInt, 1025, 1026, 2048, 1 << 32, math.MaxInt}
}

// outside are places at which n chances are none.
func outside(n int) []int {
	return []int{-1, -2, -1024, math.MinInt, -1 << 32, n, n + 1, n + 1024, 1 << 32, math.MaxInt}
}

// few are all lists of up to so many bits by n chances.
func few(n, most int, do func([]api.Bit)) {
	all := 1
	for long := range most + 1 {
		for x := range all {
			var l []api.Bit
			for range long {
				l = append(l, api.Bit{At: x / 2 % n, B: x%2 == 1})
				x /= 2 * n
			}
			do(l)
		}
		all *= 2 * n
	}
}

func encode(t *testing.T, n int, l []api.Bit) []byte {
	t.Helper()
	b, e := coder.Encode(n, l)
	if e != api.OK {
		t.Fatalf("%d chances, %d bits: got %d", n, len(l), e)
	}
	return b
}

func reader(t *testing.T, n int, b []byte) *coder.Reader {
	t.Helper()
	r, e := coder.NewReader(n, b)
	if e != api.OK || r == nil {
		t.Fatalf("%d chances, %v: got %d", n, b[:min(len(b), 9)], e)
	}
	return r
}

// P6.1: texts that are known; of some of them the last bit is carried into the text, beyond one octet 255, and beyond two.
func TestEncodeKnown(t *testing.T) {
	for _, c := range []struct {
		n    int
		l    []api.Bit
		want []byte
	}{
		{0, nil, []byte{0, 0, 0, 0, 0}},
		{1, nil, []byte{0, 0, 0, 0, 0}},
		{1024, []api.Bit{}, []byte{0, 0, 0, 0, 0}},
		{1, script("0"), []byte{0, 0, 0, 0, 0}},
		{1, script("1"), []byte{0, 127, 255, 252, 0}},
		{1, script("00000000"), []byte{0, 0, 0, 0, 0}},
		{1, script("11111111"), []byte{0, 253, 216, 196, 104}},
		{2, []api.Bit{{At: 1, B: true}, {At: 0}}, []byte{0, 127, 255, 252, 0}},
		{2, []api.Bit{{At: 0, B: true}, {At: 1, B: true}, {At: 0}, {At: 1, B: true}, {At: 0, B: true}, {At: 0}, {At: 1}, {At: 0, B: true}, {At: 1, B: true}}, []byte{0, 216, 93, 117, 61, 96}},
		{1, script("000001111"), []byte{0, 10, 62, 106, 11, 131}},
		{1, script("00000110001111101"), []byte{0, 9, 0, 37, 184, 107, 216}},
		{1, script("00011100001111101110011011110011011"), []byte{0, 31, 163, 0, 0, 19, 181, 142, 17}},
	} {
		if got, e := coder.Encode(c.n, c.l); !bytes.Equal(got, c.want) || e != api.OK {
			t.Errorf("%d, %v: got %v, %d, want %v", c.n, c.l, got, e, c.want)
		}
		if got := great(c.n, c.l); !bytes.Equal(got, c.want) {
			t.Errorf("%d, %v: the words say %v, want %v", c.n, c.l, got, c.want)
		}
	}
}

// P6.1: the text is one great number: all lists of few bits.
func TestEncodeOfFew(t *testing.T) {
	for _, c := range []struct{ n, most int }{{1, 14}, {2, 7}, {3, 5}} {
		few(c.n, c.most, func(l []api.Bit) {
			if got, e := coder.Encode(c.n, l); !bytes.Equal(got, great(c.n, l)) || e != api.OK {
				t.Fatalf("%d, %v: got %v, %d, want %v", c.n, l, got, e, great(c.n, l))
			}
		})
	}
}

// P6.1: so it is by chance, of few chances and of many, up to MaxPlaces, and of up to MaxBits bits.
func TestEncodeChance(t *testing.T) {
	for seed, n := range []int{1, 2, 3, 16, 256, 528, 1023, 1024} {
		for _, k := range []int{1, 2, 8, 50, 400, 5000} {
			for set := range 11 {
				l := bits(seed, k, n, set)
				if got, e := coder.Encode(n, l); !bytes.Equal(got, great(n, l)) || e != api.OK {
					t.Errorf("%d, %d bits, %d of ten set: got %d octets, %d", n, k, set, len(got), e)
				}
			}
		}
		for _, k := range []int{api.MaxBits - 1, api.MaxBits} {
			l := bits(seed, k, n, 3)
			if got, e := coder.Encode(n, l); !bytes.Equal(got, great(n, l)) || e != api.OK {
				t.Errorf("%d, %d bits: got %d octets, %d", n, k, len(got), e)
			}
		}
	}
}

// P6.1: chances that there may not be are ErrArg, whatever the bits are.
func TestEncodeWrong(t *testing.T) {
	lists := [][]api.Bit{nil, script("0110"), {{At: -1}}, {{At: math.MaxInt, B: true}}, make([]api.Bit, api.MaxBits+1)}
	for _, n := range wrong() {
		for _, l := range lists {
			if got, e := coder.Encode(n, l); len(got) != 0 || e != api.ErrArg {
				t.Errorf("%d, %d bits: got %v, %d", n, len(l), got, e)
			}
		}
	}
}

// P6.1: more than MaxBits bits are ErrLong, though some, or all, be by chances that there are not.
func TestEncodeLong(t *testing.T) {
	l := make([]api.Bit, api.MaxBits+9)
	for _, at := range []int{0, 1, -1} {
		l[0].At, l[api.MaxBits].At = at, at
		for _, n := range []int{0, 1, 2, 1024} {
			for _, k := range []int{api.MaxBits + 1, api.MaxBits + 2, api.MaxBits + 9} {
				if got, e := coder.Encode(n, l[:k]); len(got) != 0 || e != api.ErrLong {
					t.Errorf("%d, %d bits: got %d octets, %d", n, k, len(got), e)
				}
			}
		}
	}
}

// P6.1: a bit by a chance that there is not is ErrNone, wherever it stands.
func TestEncodeNone(t *testing.T) {
	for _, n := range []int{0, 1, 2, 528, 1023, 1024} {
		for _, at := range outside(n) {
			for _, b := range []bool{false, true} {
				bad := []api.Bit{{At: at, B: b}}
				lists := [][]api.Bit{bad, slices.Concat(bad, bad)}
				if n > 0 {
					good := bits(1, 30, n, 5)
					lists = append(lists, slices.Concat(bad, good), slices.Concat(good, bad), slices.Concat(good, bad, good))
				}
				for _, l := range lists {
					if got, e := coder.Encode(n, l); len(got) != 0 || e != api.ErrNone {
						t.Errorf("%d by %d chances: got %v, %d", at, n, got, e)
					}
				}
			}
		}
	}
	l := make([]api.Bit, api.MaxBits)
	l[api.MaxBits-1].At = 1
	if got, e := coder.Encode(1, l); len(got) != 0 || e != api.ErrNone {
		t.Errorf("the last one of MaxBits: got %d octets, %d", len(got), e)
	}
}

// P6.3: bits of texts that are known.
func TestDecodeKnown(t *testing.T) {
	for _, c := range []struct {
		n    int
		b    []byte
		at   []int
		want []bool
		used int
	}{
		{0, []byte{0, 0, 0, 0, 0}, nil, nil, 5},
		{1, []byte{0, 0, 0, 0, 0}, []int{}, nil, 5},
		{1, []byte{0, 255, 255, 255, 254}, nil, nil, 5},
		{1, []byte{0, 0, 0, 0, 0}, []int{0}, []bool{false}, 5},
		{1, []byte{0, 127, 255, 251, 255}, []int{0}, []bool{false}, 5},
		{1, []byte{0, 127, 255, 252, 0}, []int{0}, []bool{true}, 5},
		{1, []byte{0, 255, 255, 255, 254}, []int{0}, []bool{true}, 5},
		{2, []byte{0, 127, 255, 252, 0, 7, 7}, []int{1, 0}, []bool{true, false}, 5},
		{1, []byte{0, 10, 62, 106, 11, 131, 7}, slices.Repeat([]int{0}, 9), values(script("000001111")), 6},
		{1, []byte{0, 9, 0, 37, 184, 107, 216}, slices.Repeat([]int{0}, 17), values(script("00000110001111101")), 7},
		{1, []byte{0, 31, 163, 0, 0, 19, 181, 142, 17}, slices.Repeat([]int{0}, 35), values(script("00011100001111101110011011110011011")), 9},
	} {
		if got, used, e := coder.Decode(c.n, c.b, c.at); !slices.Equal(got, c.want) || used != c.used || e != api.OK {
			t.Errorf("%d, %v, %v: got %v, %d, %d, want %v, %d", c.n, c.b, c.at, got, used, e, c.want, c.used)
		}
	}
}

// P6.3: Decode is Next of each place, one after the other: its bits, or its first error; so it is with texts by chance that are long enough, or too short, and places some of which may be none.
func TestDecode(t *testing.T) {
	for seed := range 4000 {
		x := random(seed, 3)
		n, b := 1+x.IntN(5), octets(seed, 4+x.IntN(9))
		var at []int
		for range x.IntN(70) {
			at = append(at, x.IntN(n))
		}
		if len(at) > 0 && seed%3 == 0 {
			at[x.IntN(len(at))] = outside(n)[x.IntN(len(outside(n)))]
		}
		tryDecode(t, n, b, at)
	}
}

func tryDecode(t *testing.T, n int, b []byte, at []int) {
	t.Helper()
	m, want, f := newModel(n, b), []bool(nil), api.OK
	for _, a := range at {
		bit, e := m.next(a)
		if e != api.OK {
			m.used, want, f = 0, nil, e
			break
		}
		want = append(want, bit)
	}
	if got, used, e := coder.Decode(n, b, at); !slices.Equal(got, want) || used != m.used || e != f {
		t.Fatalf("%d, %v, %v: got %v, %d, %d, want %v, %d, %d", n, b, at, got, used, e, want, m.used, f)
	}
}

// P6.3: the first error counts: whether a place that is none comes first, or an octet that is not there.
func TestDecodeFirst(t *testing.T) {
	few, many := slices.Repeat([]int{0}, 9), slices.Repeat([]int{0}, 2000)
	for _, none := range outside(1) {
		for _, c := range []struct {
			at []int
			e  api.Errno
		}{
			{slices.Concat(few, []int{none}), api.ErrNone},
			{slices.Concat([]int{none}, many), api.ErrNone},
			{slices.Concat(few, []int{none}, many), api.ErrNone},
			{slices.Concat(many, []int{none}), api.ErrForm},
			{slices.Concat(many, []int{none}, many), api.ErrForm},
		} {
			if got, used, e := coder.Decode(1, make([]byte, 9), c.at); len(got) != 0 || used != 0 || e != c.e {
				t.Errorf("%d of %d places: got %v, %d, %d, want %d", none, len(c.at), got, used, e, c.e)
			}
		}
	}
}

// P6.3: what is no text is NewReader's error, whatever the places are.
func TestDecodeWrong(t *testing.T) {
	for _, at := range [][]int{nil, {0}, {-1}, {1024}, slices.Repeat([]int{0}, 900)} {
		for _, b := range noText() {
			for _, n := range []int{0, 1, 1024} {
				if got, used, e := coder.Decode(n, b, at); len(got) != 0 || used != 0 || e != api.ErrForm {
					t.Errorf("%d, %v: got %v, %d, %d", n, b, got, used, e)
				}
			}
			for _, n := range wrong() {
				if got, used, e := coder.Decode(n, b, at); len(got) != 0 || used != 0 || e != api.ErrArg {
					t.Errorf("%d, %v: got %v, %d, %d", n, b, got, used, e)
				}
			}
		}
		for _, n := range wrong() {
			if got, used, e := coder.Decode(n, make([]byte, 900), at); len(got) != 0 || used != 0 || e != api.ErrArg {
				t.Errorf("%d: got %v, %d, %d", n, got, used, e)
			}
		}
	}
}

// P6.3: there may be more places than MaxBits: Decode has no ErrLong.
func TestDecodeMany(t *testing.T) {
	for _, k := range []int{api.MaxBits, api.MaxBits + 1, api.MaxBits + 100} {
		got, used, e := coder.Decode(1, make([]byte, 1<<13), make([]int, k))
		if len(got) != k || slices.Contains(got, true) || used != len(great(1, make([]api.Bit, k))) || e != api.OK {
			t.Errorf("%d: got %d bits, %d, %d", k, len(got), used, e)
		}
	}
}
