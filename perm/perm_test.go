package perm_test

import (
	"bytes"
	"math"
	"math/rand/v2"
	"testing"

	"tansy/api"
	"tansy/perm"
)

// around is a number of 32 bits that sums and products leave behind, going around.
const around = 1 << 32

// words are the chapter's four numbers by their letters, wider than they are, so that nothing goes around by itself.
type words struct{ a, b, c, d uint64 }

// turned has x's bits k places up, those that go out coming in below.
func turned(x uint64, k int) uint64 {
	for range k {
		x = x*2%around + x*2/around
	}
	return x
}

// quarter is all of a round but what hangs on k.
func quarter(w words) words {
	w.a = (w.a + w.b) % around
	w.d = turned(w.d^w.a, 16)
	w.c = (w.c + w.d) % around
	w.b = turned(w.b^w.c, 12)
	w.a = (w.a + w.b) % around
	w.d = turned(w.d^w.a, 8)
	w.c = (w.c + w.d) % around
	w.b = turned(w.b^w.c, 7)
	return w
}

// permuted is a state behind its rounds, as the chapter's words say.
func permuted(s api.Words) api.Words {
	w := words{uint64(s[0]), uint64(s[1]), uint64(s[2]), uint64(s[3])}
	for k := range uint64(8) {
		w = quarter(w)
		w.a ^= (k + 1) * 2654435769 % around
		w = words{w.b, w.c, w.d, w.a}
	}
	return api.Words{uint32(w.a), uint32(w.b), uint32(w.c), uint32(w.d)}
}

// edges are states at the edges of what numbers are, and with one bit alone.
func edges() []api.Words {
	l := []api.Words{{}, {1, 2, 3, 4}, {4, 3, 2, 1}, {0x01234567, 0x89abcdef, 0xfedcba98, 0x76543210}}
	for _, x := range []uint32{1, math.MaxInt32, math.MaxInt32 + 1, math.MaxUint32 - 1, math.MaxUint32, 2654435769, 255, 256, 65535, 65536} {
		l = append(l, api.Words{x, x, x, x}, api.Words{x}, api.Words{0, x}, api.Words{0, 0, x}, api.Words{0, 0, 0, x})
		l = append(l, api.Words{0, x, x, x}, api.Words{x, 0, x, x}, api.Words{x, x, 0, x}, api.Words{x, x, x, 0})
	}
	for i := range 4 {
		for k := range 32 {
			one, other := api.Words{}, api.Words{math.MaxUint32, math.MaxUint32, math.MaxUint32, math.MaxUint32}
			one[i] ^= 1 << k
			other[i] ^= 1 << k
			l = append(l, one, other)
		}
	}
	return l
}

// states are those of edges, and so many by chance, which follow from seed alone.
func states(seed, n int) []api.Words {
	x := rand.New(rand.NewPCG(uint64(seed), 8))
	l := edges()
	for range n {
		l = append(l, api.Words{x.Uint32(), x.Uint32(), x.Uint32(), x.Uint32()})
	}
	return l
}

// few are some states of each kind.
func few() []api.Words {
	const most = math.MaxUint32
	return []api.Words{{}, {1, 2, 3, 4}, {most, most, most, most}, {0, 0, 0, 1}, {0xdeadbeef, 0x01020304, 0x80000000, 0x7fffffff}}
}

// The words of a round are those of a known one, where it does not hang on k.
func TestQuarter(t *testing.T) {
	got := quarter(words{0x11111111, 0x01020304, 0x9b8d6f43, 0x01234567})
	if got != (words{0xea2a92f4, 0xcb1cf8ce, 0x4581472e, 0x5881c4bb}) {
		t.Errorf("got %#x", got)
	}
}

// P8.1: states of which the Perm is known; Back of that is the state.
func TestPermKnown(t *testing.T) {
	const most = math.MaxUint32
	for _, c := range []struct{ s, want api.Words }{
		{api.Words{}, api.Words{0x54f13dd7, 0x1f2c72d4, 0x8b75fcb5, 0x98d29eb}},
		{api.Words{1, 2, 3, 4}, api.Words{0xd2d3b449, 0xb759bcc4, 0x940b97fd, 0x5e2dffd7}},
		{api.Words{most, most, most, most}, api.Words{0xce3f0201, 0x320533e, 0x3199e2a9, 0x5ac1d0fd}},
		{api.Words{1}, api.Words{0xeef6db9a, 0xb9b73203, 0x858071a6, 0xde31dd9c}},
		{api.Words{0, 0, 0, 1}, api.Words{0x1094f629, 0x29ef958f, 0x41ff855e, 0x8c348315}},
		{api.Words{1 << 31}, api.Words{0xb69e74c1, 0x5ca990ee, 0xcf99bfe, 0x13a6d783}},
		{api.Words{0x1234567, 0x89abcdef, 0xfedcba98, 0x76543210}, api.Words{0xfaa4db30, 0x97092017, 0x3d416f86, 0xda59fe42}},
	} {
		if got := perm.Perm(c.s); got != c.want {
			t.Errorf("%#x: got %#x, want %#x", c.s, got, c.want)
		}
		if got := perm.Back(c.want); got != c.s {
			t.Errorf("back from %#x: got %#x, want %#x", c.want, got, c.s)
		}
	}
}

// P8.1: Perm is the rounds of 0 to 7, one after the other, at all states.
func TestPerm(t *testing.T) {
	for _, s := range states(1, 20000) {
		if got, want := perm.Perm(s), permuted(s); got != want {
			t.Fatalf("%#x: got %#x, want %#x", s, got, want)
		}
	}
}

// P8.1: Back is the state of which that is Perm, at all states.
func TestBack(t *testing.T) {
	for _, s := range states(2, 20000) {
		if got := permuted(perm.Back(s)); got != s {
			t.Fatalf("%#x: got one of which %#x is Perm", s, got)
		}
		if got := perm.Back(permuted(s)); got != s {
			t.Fatalf("%#x: got %#x", s, got)
		}
	}
}

// P8.4: octets that are known, the lowest one of each number first; Of them is the state.
func TestOctetsKnown(t *testing.T) {
	for _, c := range []struct {
		s api.Words
		b []byte
	}{
		{api.Words{}, make([]byte, 16)},
		{api.Words{1, 2, 3, 4}, []byte{1, 0, 0, 0, 2, 0, 0, 0, 3, 0, 0, 0, 4, 0, 0, 0}},
		{api.Words{0x04030201, 0x08070605, 0x0c0b0a09, 0x100f0e0d}, []byte{1, 2, 3, 4, 5, 6, 7, 8, 9, 10, 11, 12, 13, 14, 15, 16}},
		{api.Words{math.MaxUint32, 0, 0, 1 << 31}, []byte{255, 255, 255, 255, 0, 0, 0, 0, 0, 0, 0, 0, 0, 0, 0, 128}},
		{api.Words{0x64636261, 0x68676665, 0x6c6b6a69, 0x706f6e6d}, []byte("abcdefghijklmnop")},
	} {
		if got := perm.Octets(c.s); !bytes.Equal(got, c.b) {
			t.Errorf("%#x: got %v, want %v", c.s, got, c.b)
		}
		if got, e := perm.Of(c.b); got != c.s || e != api.OK {
			t.Errorf("%v: got %#x, %d, want %#x", c.b, got, e, c.s)
		}
	}
}

// told are a state's octets, as the chapter's words say.
func told(s api.Words) []byte {
	var b []byte
	for _, w := range s {
		for range 4 {
			b = append(b, byte(w%256))
			w /= 256
		}
	}
	return b
}

// P8.4: Octets are all four numbers' octets, and Of them is the state, at all states.
func TestOctets(t *testing.T) {
	for _, s := range states(3, 5000) {
		got := perm.Octets(s)
		if !bytes.Equal(got, told(s)) {
			t.Fatalf("%#x: got %v, want %v", s, got, told(s))
		}
		if again, e := perm.Of(got); again != s || e != api.OK {
			t.Fatalf("%#x: got %#x, %d", s, again, e)
		}
	}
}

// P8.4: each octet has its own place in a state.
func TestOfEachOctet(t *testing.T) {
	for i := range 16 {
		for o := range 256 {
			b := make([]byte, 16)
			b[i] = byte(o)
			var want api.Words
			want[i/4] = uint32(o) << (i % 4 * 8)
			if got, e := perm.Of(b); got != want || e != api.OK {
				t.Fatalf("%v: got %#x, %d, want %#x", b, got, e, want)
			}
		}
	}
}

// P8.4: ErrForm, if there are not sixteen octets, whatever they are; the state is zero then.
func TestOfWrong(t *testing.T) {
	for n := range 200 {
		want := api.ErrForm
		if n == 16 {
			want = api.OK
		}
		if got, e := perm.Of(make([]byte, n)); got != (api.Words{}) || e != want {
			t.Errorf("%d zeros: got %#x, %d", n, got, e)
		}
		if got, e := perm.Of(bytes.Repeat([]byte{7}, n)); e != want || n != 16 && got != (api.Words{}) {
			t.Errorf("%d sevens: got %#x, %d", n, got, e)
		}
	}
	for _, b := range [][]byte{nil, {}, make([]byte, api.MaxSqueeze), make([]byte, 1<<16+16)} {
		if got, e := perm.Of(b); got != (api.Words{}) || e != api.ErrForm {
			t.Errorf("%d octets: got %#x, %d", len(b), got, e)
		}
	}
}
