package perm_test

import (
	"bytes"
	"math"
	"math/rand/v2"
	"testing"

	"tansy/api"
	"tansy/perm"
)

// octets are so many octets by chance, which follow from seed and n alone.
func octets(seed, n int) []byte {
	x := rand.New(rand.NewPCG(uint64(seed), uint64(n)))
	b := make([]byte, n)
	for i := range b {
		b[i] = byte(x.Uint32())
	}
	return b
}

// filled is a text with an octet 128 behind, and zeros up to a whole eight.
func filled(b []byte) []byte {
	b = append(bytes.Clone(b), 128)
	for len(b)%8 != 0 {
		b = append(b, 0)
	}
	return b
}

// absorbed is a state behind a text, as the chapter's words say.
func absorbed(s api.Words, b []byte) api.Words {
	for i, o := range filled(b) {
		s[i%8/4] ^= uint32(o) << (i % 4 * 8)
		if i%8 == 7 {
			s = permuted(s)
		}
	}
	return s
}

// squeezed are the first n octets of a state, and of what it is permuted to, as the chapter's words say.
func squeezed(s api.Words, n int) []byte {
	var b []byte
	for len(b) < n {
		b = append(b, told(s)[:8]...)
		s = permuted(s)
	}
	return b[:n]
}

// P8.2: states that are known, behind texts that end wherever a whole eight does, and elsewhere.
func TestAbsorbKnown(t *testing.T) {
	for _, c := range []struct {
		b           []byte
		zero, count api.Words
	}{
		{nil, api.Words{0x3b9a0c84, 0xb966c7b2, 0x4a8eda92, 0xd73b8f8a}, api.Words{0x3fee9928, 0x37287044, 0xfc572290, 0x973c3a60}},
		{[]byte{}, api.Words{0x3b9a0c84, 0xb966c7b2, 0x4a8eda92, 0xd73b8f8a}, api.Words{0x3fee9928, 0x37287044, 0xfc572290, 0x973c3a60}},
		{[]byte{0}, api.Words{0x9ed294a, 0x79d7e3c8, 0xa30bebd1, 0x7e7afdd5}, api.Words{0x78db8e20, 0xb0e925de, 0x2c2ce367, 0x1083e2a1}},
		{[]byte{128}, api.Words{0x73965202, 0xb650e146, 0x8e4c783b, 0x9ac81626}, api.Words{0xee8896c7, 0x1f894d65, 0xdeff9b22, 0x73058567}},
		{[]byte("tansy"), api.Words{0x39e2c845, 0x18e7563a, 0xb257edd8, 0x1e418193}, api.Words{0x9b04955a, 0xe735017c, 0x69ae5de9, 0x8cce53e0}},
		{[]byte("1234567"), api.Words{0xddd69071, 0xd6a6cf1, 0x9911dd41, 0xde0d5e44}, api.Words{0x5a8d0f69, 0xbae33796, 0x48a68e62, 0x12a22ab1}},
		{[]byte("12345678"), api.Words{0xad4ae5ae, 0xde7c7b2d, 0xcae21148, 0x7794368d}, api.Words{0x7549beaf, 0xc8bd964d, 0x5faa16d9, 0x4da617a8}},
		{[]byte("123456789"), api.Words{0x32670154, 0x5ff95cd4, 0xf1c3eb3, 0xe9202648}, api.Words{0x9b8f5a70, 0x44ba5c20, 0x2547180b, 0xb3830f51}},
		{make([]byte, 8), api.Words{0x6db3145a, 0x48a95eae, 0xff68fccf, 0x37e234d4}, api.Words{0x60b76bf1, 0xb5926117, 0x2682fdae, 0x80ee5445}},
	} {
		if got, e := perm.Absorb(api.Words{}, c.b); got != c.zero || e != api.OK {
			t.Errorf("%q: got %#x, %d, want %#x", c.b, got, e, c.zero)
		}
		if got, e := perm.Absorb(api.Words{1, 2, 3, 4}, c.b); got != c.count || e != api.OK {
			t.Errorf("1, 2, 3, 4, %q: got %#x, %d, want %#x", c.b, got, e, c.count)
		}
	}
}

// P8.2: texts of each length, and of each octet alone, from many states.
func TestAbsorb(t *testing.T) {
	for n := range 100 {
		for _, b := range [][]byte{octets(1, n), make([]byte, n), bytes.Repeat([]byte{128}, n), bytes.Repeat([]byte{255}, n)} {
			for _, s := range few() {
				if got, e := perm.Absorb(s, b); got != absorbed(s, b) || e != api.OK {
					t.Fatalf("%#x, %v: got %#x, %d, want %#x", s, b, got, e, absorbed(s, b))
				}
			}
		}
	}
	for _, s := range states(4, 200) {
		for n := range 18 {
			b := octets(2, n)
			if got, e := perm.Absorb(s, b); got != absorbed(s, b) || e != api.OK {
				t.Fatalf("%#x, %v: got %#x, %d, want %#x", s, b, got, e, absorbed(s, b))
			}
		}
	}
	for o := range 256 {
		for i := range 10 {
			b := make([]byte, 10)
			b[i] = byte(o)
			if got, e := perm.Absorb(api.Words{}, b); got != absorbed(api.Words{}, b) || e != api.OK {
				t.Fatalf("%v: got %#x, %d", b, got, e)
			}
		}
	}
}

// P8.2: the longest text is taken in; a longer one is ErrLong, and the state is zero then.
func TestAbsorbLong(t *testing.T) {
	s := api.Words{1, 2, 3, 4}
	for _, c := range []struct {
		n    int
		want api.Words
	}{
		{api.MaxSqueeze - 1, api.Words{0x1d1a8391, 0x8e6349a0, 0xc19543e3, 0x42bba047}},
		{api.MaxSqueeze, api.Words{0xc7ef20c7, 0x6ea84e91, 0x5cb92831, 0x4c894764}},
	} {
		if got, e := perm.Absorb(s, make([]byte, c.n)); got != c.want || e != api.OK {
			t.Errorf("%d zeros: got %#x, %d, want %#x", c.n, got, e, c.want)
		}
		b := octets(3, c.n)
		if got, e := perm.Absorb(s, b); got != absorbed(s, b) || e != api.OK {
			t.Errorf("%d: got %#x, %d", c.n, got, e)
		}
	}
	for _, n := range []int{api.MaxSqueeze + 1, api.MaxSqueeze + 7, api.MaxSqueeze + 8, 2 * api.MaxSqueeze} {
		for _, s := range few() {
			if got, e := perm.Absorb(s, make([]byte, n)); got != (api.Words{}) || e != api.ErrLong {
				t.Errorf("%#x, %d: got %#x, %d", s, n, got, e)
			}
		}
	}
}

// P8.3: octets that are known; none are none, as the chapter's example says.
func TestSqueezeKnown(t *testing.T) {
	zero := []byte{0, 0, 0, 0, 0, 0, 0, 0, 215, 61, 241, 84, 212, 114, 44, 31, 209, 152, 196, 138}
	count := []byte{1, 0, 0, 0, 2, 0, 0, 0, 73, 180, 211, 210, 196, 188, 89, 183, 167, 247, 97, 53}
	for n := range 21 {
		if got, e := perm.Squeeze(api.Words{}, n); !bytes.Equal(got, zero[:n]) || e != api.OK {
			t.Errorf("%d: got %v, %d, want %v", n, got, e, zero[:n])
		}
		if got, e := perm.Squeeze(api.Words{1, 2, 3, 4}, n); !bytes.Equal(got, count[:n]) || e != api.OK {
			t.Errorf("1, 2, 3, 4, %d: got %v, %d, want %v", n, got, e, count[:n])
		}
	}
	for _, s := range states(5, 20) {
		if got, e := perm.Squeeze(s, 0); len(got) != 0 || e != api.OK {
			t.Errorf("%#x: got %v, %d", s, got, e)
		}
	}
}

// P8.3: so many octets from many states; the most are given out too.
func TestSqueeze(t *testing.T) {
	for n := range 100 {
		for _, s := range few() {
			if got, e := perm.Squeeze(s, n); !bytes.Equal(got, squeezed(s, n)) || e != api.OK {
				t.Fatalf("%#x, %d: got %v, %d, want %v", s, n, got, e, squeezed(s, n))
			}
		}
	}
	for _, s := range states(6, 500) {
		if got, e := perm.Squeeze(s, 37); !bytes.Equal(got, squeezed(s, 37)) || e != api.OK {
			t.Fatalf("%#x: got %v, %d, want %v", s, got, e, squeezed(s, 37))
		}
	}
	for _, n := range []int{api.MaxSqueeze - 9, api.MaxSqueeze - 1, api.MaxSqueeze} {
		got, e := perm.Squeeze(api.Words{1, 2, 3, 4}, n)
		if !bytes.Equal(got, squeezed(api.Words{1, 2, 3, 4}, n)) || e != api.OK {
			t.Errorf("%d: got %d octets, %d", n, len(got), e)
		}
	}
	got, e := perm.Squeeze(api.Words{1, 2, 3, 4}, api.MaxSqueeze)
	if e != api.OK || !bytes.HasSuffix(got, []byte{16, 25, 61, 205, 133, 124, 32, 196, 30}) {
		t.Errorf("got %d octets, %d", len(got), e)
	}
}

// P8.3: ErrArg below 0, ErrLong above the most; there are no octets then.
func TestSqueezeWrong(t *testing.T) {
	for _, s := range few() {
		for _, n := range []int{-1, -2, -8, -api.MaxSqueeze, math.MinInt, math.MinInt + 1, math.MinInt32} {
			if got, e := perm.Squeeze(s, n); len(got) != 0 || e != api.ErrArg {
				t.Errorf("%#x, %d: got %d octets, %d", s, n, len(got), e)
			}
		}
		for _, n := range []int{api.MaxSqueeze + 1, api.MaxSqueeze + 8, 2 * api.MaxSqueeze, 1 << 32, math.MaxInt, math.MaxInt - 7} {
			if got, e := perm.Squeeze(s, n); len(got) != 0 || e != api.ErrLong {
				t.Errorf("%#x, %d: got %d octets, %d", s, n, len(got), e)
			}
		}
	}
}
