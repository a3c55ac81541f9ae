package root_test

import (
	"bytes"
	"math/rand/v2"
	"slices"
	"testing"

	"tansy/api"
)

// stamped are octets whose groups all begin with the lowest one of the generation that they tell.
func stamped(b []byte) []byte {
	b = bytes.Clone(b)
	for k := range 8 {
		b[4*k] = b[1]
	}
	return b
}

// P16.1: octets of another count than 32 are ErrForm, though a root's are their beginning, or their end.
func TestOfCount(t *testing.T) {
	for n := range 200 {
		for o := range 4 {
			if n != 32 {
				refused(t, bytes.Repeat([]byte{byte(o)}, n))
			}
		}
	}
	for _, r := range good() {
		b := plain(r)
		for n := range 32 {
			refused(t, b[:n])
			refused(t, b[n+1:])
		}
		for o := range 256 {
			refused(t, append(bytes.Clone(b), byte(o)))
			refused(t, append([]byte{byte(o)}, b...))
		}
		refused(t, slices.Concat(b, b))
		refused(t, make([]byte, 1<<20))
	}
}

// P16.1: sectors of one octet again and again are no root's.
func TestOfOne(t *testing.T) {
	for o := range 256 {
		refused(t, bytes.Repeat([]byte{byte(o)}, 32))
	}
}

// P16.1: with any octet any other one there is the root that is told then, or none; with one of a group's first octets another one there is none.
func TestOfEachOctet(t *testing.T) {
	for _, r := range good() {
		for at := range 32 {
			for o := range 256 {
				b := plain(r)
				if b[at] == byte(o) {
					continue
				}
				b[at] = byte(o)
				if may := reads(t, b); may && (at%4 == 0 || at == 1 || at == 31) {
					t.Fatalf("%v: is a root's", b)
				}
				// The generation's lowest octet is told nine times: all of them together tell of another one.
				reads(t, stamped(b))
			}
		}
	}
}

// P16.1: each bit of the last octet is 0.
func TestOfLast(t *testing.T) {
	for _, r := range good() {
		for o := 1; o < 256; o++ {
			b := plain(r)
			b[31] = byte(o)
			refused(t, b)
		}
	}
}

// P16.1: what tells of a root that may not be is ErrForm, though it has the form of one.
func TestOfBad(t *testing.T) {
	for _, r := range []api.Root{
		of(0, 2, 3, 70, 1, 9), of(1<<40+1, 2, 3, 70, 1, 9), of(1<<48-1, 2, 3, 70, 1, 9),
		of(5, 0, 3, 70, 1, 9), of(5, 1, 3, 70, 1, 9), of(5, 8190, 3, 70, 1, 9), of(5, 65535, 3, 70, 1, 9), of(5, 65535, 65535, 70, 1, 9),
		of(5, 2, 0, 0, 1, 9), of(5, 2, 8191, 70, 1, 9), of(5, 2, 65535, 70, 1, 9),
		of(5, 2, 3, 97, 1, 9), of(5, 2, 3, 1<<24-1, 1, 9), of(5, 2, 8190, 262081, 1, 9),
		of(5, 2, 3, 70, 1, 1<<40+1), of(5, 2, 3, 70, 1, 1<<48-1),
	} {
		refused(t, plain(r))
	}
}

// P16.1: octets by chance, stamped, are read as the words tell; of roots by chance a few octets are changed.
func TestOfChance(t *testing.T) {
	x := rand.New(rand.NewPCG(2, 16))
	roots := 0
	for range 30000 {
		b := make([]byte, 32)
		for i := range b {
			b[i] = byte(x.IntN(256) >> x.IntN(9))
		}
		reads(t, b)
		reads(t, stamped(b))
		b = plain(chance(x))
		for range 1 + x.IntN(3) {
			b[x.IntN(32)] ^= 1 << x.IntN(8)
		}
		reads(t, b)
		if reads(t, stamped(b)) {
			roots++
		}
	}
	if roots < 1000 {
		t.Errorf("only %d were roots", roots)
	}
}
