package crc_test

import (
	"bytes"
	"hash/crc32"
	"math"
	"math/rand/v2"
	"testing"

	"tansy/api"
	"tansy/crc"
)

// stepped is a register stepped octet by octet, and bit by bit, as the chapter's words say.
func stepped(r uint32, b []byte) uint32 {
	for _, o := range b {
		r ^= uint32(o)
		for range 8 {
			was := r
			r = was / 2
			if was%2 == 1 {
				r ^= 3988292384
			}
		}
	}
	return r
}

// octets are so many octets by chance, which follow from seed and n alone.
func octets(seed, n int) []byte {
	x := rand.New(rand.NewPCG(uint64(seed), uint64(n)))
	b := make([]byte, n)
	for i := range b {
		b[i] = byte(x.Uint32())
	}
	return b
}

// registers are the edges of what a register may be, each bit alone, and some by chance.
func registers() []uint32 {
	l := []uint32{0, math.MaxUint32, math.MaxUint32 - 1, math.MaxInt32, 3988292384, 79764919, 255, 256}
	for i := range 32 {
		l = append(l, 1<<i)
	}
	x := rand.New(rand.NewPCG(3, 1))
	for range 20 {
		l = append(l, x.Uint32())
	}
	return l
}

// texts are some of each kind: short ones, ones of zeros, of ones alone, by chance, and longer than a text is at the most.
func texts() [][]byte {
	l := [][]byte{
		nil, {}, {0}, {255}, {1, 2, 3}, []byte("123456789"), []byte("tansy"),
		make([]byte, 4), make([]byte, 32), bytes.Repeat([]byte{255}, 32),
		make([]byte, api.MaxText), octets(1, api.MaxText), octets(2, api.MaxText+1), octets(3, api.MaxBlock),
	}
	for n := range 70 {
		l = append(l, octets(4, n))
	}
	return l
}

// P3.1: a register is stepped by each octet, whatever it is.
func TestStepOctet(t *testing.T) {
	for _, r := range registers() {
		for o := range 256 {
			b := []byte{byte(o)}
			if got := crc.Step(r, b); got != stepped(r, b) {
				t.Fatalf("%#x, %d: got %#x, want %#x", r, o, got, stepped(r, b))
			}
		}
	}
}

// P3.1: a register is stepped by all octets, in their order; by none it is as it was.
func TestStepText(t *testing.T) {
	for i, b := range texts() {
		for _, r := range []uint32{0, 1, math.MaxUint32, 3988292384, 123456789} {
			want := stepped(r, b)
			if other := ^crc32.Update(^r, crc32.IEEETable, b); other != want {
				t.Fatalf("text %d: the library has %#x, the words %#x", i, other, want)
			}
			if got := crc.Step(r, b); got != want {
				t.Errorf("text %d, %#x: got %#x, want %#x", i, r, got, want)
			}
		}
	}
	for _, r := range registers() {
		if got := crc.Step(r, nil); got != r {
			t.Errorf("%#x: got %#x", r, got)
		}
		if got := crc.Step(r, []byte{}); got != r {
			t.Errorf("%#x: got %#x", r, got)
		}
	}
}

// P3.1: steps that are known: each by one octet.
func TestStepKnown(t *testing.T) {
	for _, c := range []struct {
		r    uint32
		o    byte
		want uint32
	}{
		{0, 0, 0},
		{0, 128, 3988292384},
		{0, 1, 0x77073096},
		{0, 255, 0x2d02ef8d},
		{255, 255, 0},
		{1, 0, 0x77073096},
		{256, 0, 1},
		{1 << 31, 0, 1 << 23},
		{0xffffff00, 0, 0x00ffffff},
		{math.MaxUint32, 0, 0x2dfd1072},
	} {
		if got := crc.Step(c.r, []byte{c.o}); got != c.want {
			t.Errorf("%#x, %d: got %#x, want %#x", c.r, c.o, got, c.want)
		}
	}
}

// P3.1: sums that are known, and the chapter's example.
func TestSumKnown(t *testing.T) {
	for _, c := range []struct {
		b    []byte
		want uint32
	}{
		{[]byte("123456789"), 3421780262},
		{nil, 0},
		{[]byte{}, 0},
		{[]byte("a"), 0xe8b7be43},
		{[]byte("abc"), 0x352441c2},
		{[]byte("The quick brown fox jumps over the lazy dog"), 0x414fa339},
		{[]byte{0}, 0xd202ef8d},
		{make([]byte, 4), 0x2144df1c},
		{make([]byte, 32), 0x190a55ad},
		{bytes.Repeat([]byte{255}, 4), 0xffffffff},
		{bytes.Repeat([]byte{255}, 32), 0xff6cab0b},
	} {
		if got := crc.Sum(c.b); got != c.want {
			t.Errorf("%q: got %#x, want %#x", c.b, got, c.want)
		}
	}
}

// P3.1: a sum is ones alone, stepped by all octets, and then all bits turned.
func TestSum(t *testing.T) {
	for i, b := range texts() {
		want := math.MaxUint32 - stepped(math.MaxUint32, b)
		if got := crc.Sum(b); got != want || got != crc32.ChecksumIEEE(b) {
			t.Errorf("text %d: got %#x, want %#x", i, got, want)
		}
	}
}

// P3.2: a stepped by n octets 0, exclusive or b, whatever a and b are.
func TestJoin(t *testing.T) {
	counts := []int{api.MaxText - 1, api.MaxText, api.MaxText / 2, api.MaxText/2 - 1, 255, 256, 257, 4095, 43690, 21845}
	for n := range 70 {
		counts = append(counts, n)
	}
	for _, n := range counts {
		zeros := make([]byte, n)
		for i, a := range registers() {
			if n > 300 && i%5 > 0 {
				continue
			}
			for _, b := range []uint32{0, 1, math.MaxUint32, a, ^a, 0xdeadbeef} {
				want := ^crc32.Update(^a, crc32.IEEETable, zeros) ^ b
				if got, e := crc.Join(a, b, n); got != want || e != api.OK {
					t.Fatalf("%#x, %#x, %d: got %#x, %d, want %#x", a, b, n, got, e, want)
				}
			}
		}
	}
}

// P3.2: each count of octets that may be, with a known by stepping on by one octet 0 at a time.
func TestJoinEachCount(t *testing.T) {
	r := uint32(0x12345678)
	for n := range api.MaxText + 1 {
		if got, e := crc.Join(0x12345678, 0xff, n); got != r^0xff || e != api.OK {
			t.Fatalf("%d: got %#x, %d, want %#x", n, got, e, r^0xff)
		}
		r = stepped(r, []byte{0})
	}
}

// P3.2: the edges: no octets, one, the most; below and above are ErrArg, and the sum is zero then.
func TestJoinEdges(t *testing.T) {
	for _, c := range []struct {
		a, b uint32
		n    int
		want uint32
	}{
		{0, 0, 0, 0},
		{5, 0, 0, 5},
		{5, 6, 0, 3},
		{0, 6, 1, 6},
		{0, 6, api.MaxText, 6},
		{1, 0, 1, 0x77073096},
		{1 << 31, 0, 3, 1 << 7},
		{math.MaxUint32, math.MaxUint32, 0, 0},
	} {
		if got, e := crc.Join(c.a, c.b, c.n); got != c.want || e != api.OK {
			t.Errorf("%#x, %#x, %d: got %#x, %d, want %#x", c.a, c.b, c.n, got, e, c.want)
		}
	}
	for _, n := range []int{-1, -2, -api.MaxText, api.MaxText + 1, 2 * api.MaxText, 1 << 32, 1<<32 + 1, math.MaxInt, math.MinInt, math.MinInt + 1} {
		for _, r := range []uint32{0, 1, math.MaxUint32} {
			if got, e := crc.Join(r, ^r, n); got != 0 || e != api.ErrArg {
				t.Errorf("%#x, %d: got %#x, %d", r, n, got, e)
			}
		}
	}
}

// P3.3: a text, and its sum in four octets, the lowest one first.
func TestSeal(t *testing.T) {
	for _, c := range []struct{ b, want []byte }{
		{nil, []byte{0, 0, 0, 0}},
		{[]byte{}, []byte{0, 0, 0, 0}},
		{[]byte("123456789"), []byte("123456789\x26\x39\xf4\xcb")},
		{[]byte{0}, []byte{0, 0x8d, 0xef, 0x02, 0xd2}},
		{[]byte("a"), []byte{'a', 0x43, 0xbe, 0xb7, 0xe8}},
	} {
		if got := crc.Seal(c.b); !bytes.Equal(got, c.want) {
			t.Errorf("%q: got %v, want %v", c.b, got, c.want)
		}
	}
	for i, b := range texts() {
		s := crc32.ChecksumIEEE(b)
		want := append(bytes.Clone(b), byte(s), byte(s>>8), byte(s>>16), byte(s>>24))
		if got := crc.Seal(b); !bytes.Equal(got, want) {
			t.Errorf("text %d: got another one", i)
		}
	}
}

// P3.3: what stands ahead of a right sum, of no octets too.
func TestOpen(t *testing.T) {
	for _, c := range []struct{ b, want []byte }{
		{[]byte{0, 0, 0, 0}, nil},
		{[]byte("123456789\x26\x39\xf4\xcb"), []byte("123456789")},
		{[]byte{0, 0x8d, 0xef, 0x02, 0xd2}, []byte{0}},
		{bytes.Repeat([]byte{255}, 8), bytes.Repeat([]byte{255}, 4)},
	} {
		if got, e := crc.Open(c.b); !bytes.Equal(got, c.want) || e != api.OK {
			t.Errorf("%v: got %v, %d", c.b, got, e)
		}
	}
}

// P3.3: ErrForm below four octets, whatever they are; ErrSum at another sum; all else is zero then.
func TestOpenWrong(t *testing.T) {
	for _, b := range [][]byte{nil, {}, {0}, {255}, {0, 0}, {0, 0, 0}, {255, 255, 255}, {1, 2, 3}} {
		if got, e := crc.Open(b); len(got) != 0 || e != api.ErrForm {
			t.Errorf("%v: got %v, %d", b, got, e)
		}
	}
	for i, b := range [][]byte{
		{0, 0, 0, 1},
		{1, 0, 0, 0},
		{255, 255, 255, 255},
		{0, 0, 0, 0, 0},
		{0, 0xd2, 0x02, 0xef, 0x8d},
		{0x8d, 0xef, 0x02, 0xd2, 0},
		{0, 0x72, 0x10, 0xfd, 0x2d},
		[]byte("123456789\xcb\xf4\x39\x26"),
		[]byte("123456789"),
		[]byte("123456789\x26\x39\xf4"),
		[]byte("123456789\x26\x39\xf4\xcb\x00"),
		[]byte("12345678\x26\x39\xf4\xcb"),
		make([]byte, api.MaxText),
		octets(7, api.MaxBlock+4),
	} {
		if got, e := crc.Open(b); len(got) != 0 || e != api.ErrSum {
			t.Errorf("text %d: got %d octets, %d", i, len(got), e)
		}
	}
}
