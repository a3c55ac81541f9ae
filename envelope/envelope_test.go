package envelope_test

import (
	"bytes"
	"encoding/binary"
	"math"
	"math/rand/v2"
	"testing"

	"tansy/api"
	"tansy/envelope"
	"tansy/perm"
)

// octets are so many octets by chance, which follow from seed and n alone.
func octets(seed, n int) []byte {
	x := rand.New(rand.NewPCG(uint64(seed), uint64(n)))
	b := make([]byte, n)
	for i := range b {
		b[i] = byte(x.Uint32())
	}
	return b
}

// most is a key all bits of which are set.
var most = api.Words{math.MaxUint32, math.MaxUint32, math.MaxUint32, math.MaxUint32}

// keys are some of each kind, and keys with one bit alone.
func keys() []api.Words {
	l := []api.Words{{}, {1, 2, 3, 4}, most, {0xdeadbeef, 0x01020304, 0x80000000, 0x7fffffff}}
	for i := range 4 {
		for _, k := range []int{0, 7, 8, 31} {
			var one api.Words
			one[i] = 1 << k
			l = append(l, one)
		}
	}
	return l
}

// numbers are those at the edges of what octets hold, and numbers with one bit alone.
func numbers() []uint64 {
	l := []uint64{0, 255, 256, 65535, api.MaxNext - 1, api.MaxNext, api.MaxNext + 1, math.MaxUint32, math.MaxInt64, 0x0807060504030201, math.MaxUint64 - 1, math.MaxUint64}
	for k := range 64 {
		l = append(l, 1<<k)
	}
	return l
}

// streamed is the Stream, as the chapter's words say.
func streamed(t *testing.T, key api.Words, n uint64, long int) []byte {
	t.Helper()
	s, e := perm.Absorb(key, append(binary.LittleEndian.AppendUint64(nil, n), 1))
	b, f := perm.Squeeze(s, long)
	if e != api.OK || f != api.OK {
		t.Fatalf("%d, %d of %d octets", e, f, long)
	}
	return b
}

// tagged is the Tag, as the chapter's words say.
func tagged(t *testing.T, key api.Words, n uint64, text []byte) api.Words {
	t.Helper()
	s, e := perm.Absorb(key, append(append(binary.LittleEndian.AppendUint64(nil, n), 2), text...))
	if e != api.OK {
		t.Fatalf("%d of %d octets", e, len(text))
	}
	return s
}

// P9.1: Streams and Tags that are known.
func TestKnown(t *testing.T) {
	for _, c := range []struct {
		key         api.Words
		n           uint64
		stream      []byte
		none, tansy api.Words
	}{
		{api.Words{}, 0, []byte{211, 91, 67, 180, 153, 41, 235, 246, 196}, api.Words{0x6ba896ef, 0xffc8929a, 0x28b7f596, 0x76dde3fa}, api.Words{0xd80dc0ae, 0x937ac85c, 0xd3b5872e, 0x1c5e4980}},
		{api.Words{}, 1, []byte{245, 50, 194, 134, 8, 185, 11, 33, 184}, api.Words{0x9ab05d2d, 0x57ab6fc4, 0x726095f5, 0x3f36a9d0}, api.Words{0xc4fac06a, 0x44866b08, 0xe5c850af, 0x80912452}},
		{api.Words{1, 2, 3, 4}, 0, []byte{255, 223, 150, 187, 10, 34, 73, 238, 139}, api.Words{0x78cb2bb1, 0x6e2ceeb, 0xca886201, 0x6936b24f}, api.Words{0xce54e6e5, 0x976c98df, 0x40a59c82, 0xd064e995}},
		{api.Words{1, 2, 3, 4}, 256, []byte{148, 49, 188, 126, 97, 18, 124, 221, 78}, api.Words{0x47d361ce, 0x69a05feb, 0x2ee4699a, 0x7fa985f9}, api.Words{0x82607ac6, 0x76206219, 0x9d2a47c1, 0xc3bdcd33}},
		{api.Words{1, 2, 3, 4}, 1 << 40, []byte{179, 7, 238, 157, 130, 131, 145, 120, 183}, api.Words{0xb266f29e, 0x9d13f369, 0xb3b2e96b, 0x22d2986f}, api.Words{0x8a0f0f86, 0x26078fbe, 0x90509f66, 0x33c87631}},
		{api.Words{1, 2, 3, 4}, 0x807060504030201, []byte{249, 48, 16, 55, 182, 155, 217, 137, 68}, api.Words{0xa32a885b, 0xfa7da808, 0x528cda40, 0x823a08b0}, api.Words{0x148c4a0c, 0x6b587cc5, 0xc121adc, 0xe122f88e}},
		{most, math.MaxUint64 - 1, []byte{9, 203, 72, 253, 204, 224, 169, 145, 160}, api.Words{0xd4ea3344, 0xdf8ba7fc, 0xc21839cf, 0x658b176c}, api.Words{0xfbda2fce, 0xb7ae9bf9, 0x601d72b3, 0x7af8bb46}},
		{most, math.MaxUint64, []byte{221, 165, 176, 215, 86, 201, 176, 182, 17}, api.Words{0xdaf7ad4, 0xa6b5baa5, 0xa1b2d9e5, 0x76c827bd}, api.Words{0xcf6c3ff, 0xbe642df, 0xaecbfaa8, 0x8f789df0}},
	} {
		for n := range len(c.stream) + 1 {
			if got, e := envelope.Stream(c.key, c.n, n); !bytes.Equal(got, c.stream[:n]) || e != api.OK {
				t.Errorf("%#x, %#x: got %v, %d, want %v", c.key, c.n, got, e, c.stream[:n])
			}
		}
		if got, e := envelope.Tag(c.key, c.n, nil); got != c.none || e != api.OK {
			t.Errorf("%#x, %#x, no octets: got %#x, %d, want %#x", c.key, c.n, got, e, c.none)
		}
		if got, e := envelope.Tag(c.key, c.n, []byte("tansy")); got != c.tansy || e != api.OK {
			t.Errorf("%#x, %#x: got %#x, %d, want %#x", c.key, c.n, got, e, c.tansy)
		}
	}
}

// P9.1: Streams of many keys, by many numbers, of many lengths.
func TestStream(t *testing.T) {
	for _, key := range keys() {
		for _, n := range numbers() {
			for long := range 20 {
				if got, e := envelope.Stream(key, n, long); !bytes.Equal(got, streamed(t, key, n, long)) || e != api.OK {
					t.Fatalf("%#x, %#x, %d: got %v, %d, want %v", key, n, long, got, e, streamed(t, key, n, long))
				}
			}
		}
	}
	for long := 20; long < 2000; long += 1 + long/40 {
		if got, e := envelope.Stream(most, 7, long); !bytes.Equal(got, streamed(t, most, 7, long)) || e != api.OK {
			t.Fatalf("%d: got %d octets, %d", long, len(got), e)
		}
	}
}

// P9.1: the longest Stream is told; ErrArg below no octets, ErrLong above the most, and there is none then.
func TestStreamEdges(t *testing.T) {
	for _, long := range []int{api.MaxText - 1, api.MaxText} {
		got, e := envelope.Stream(api.Words{1, 2, 3, 4}, 5, long)
		if !bytes.Equal(got, streamed(t, api.Words{1, 2, 3, 4}, 5, long)) || e != api.OK {
			t.Errorf("%d: got %d octets, %d", long, len(got), e)
		}
		if long == api.MaxText && !bytes.HasSuffix(got, []byte{75, 99, 101, 165, 244, 37, 222, 72, 138}) {
			t.Errorf("got another end")
		}
	}
	for _, key := range keys() {
		for _, long := range []int{-1, -2, -8, -api.MaxText, math.MinInt32, math.MinInt, math.MinInt + 1} {
			if got, e := envelope.Stream(key, 5, long); len(got) != 0 || e != api.ErrArg {
				t.Errorf("%#x, %d: got %d octets, %d", key, long, len(got), e)
			}
		}
		for _, long := range []int{api.MaxText + 1, api.MaxText + 8, api.MaxSqueeze, api.MaxSqueeze + 1, 1 << 32, math.MaxInt} {
			if got, e := envelope.Stream(key, 5, long); len(got) != 0 || e != api.ErrLong {
				t.Errorf("%#x, %d: got %d octets, %d", key, long, len(got), e)
			}
		}
	}
}

// P9.1: Tags of many keys, by many numbers, of texts of each length.
func TestTag(t *testing.T) {
	for _, key := range keys() {
		for _, n := range numbers() {
			for long := range 20 {
				text := octets(1, long)
				if got, e := envelope.Tag(key, n, text); got != tagged(t, key, n, text) || e != api.OK {
					t.Fatalf("%#x, %#x, %v: got %#x, %d, want %#x", key, n, text, got, e, tagged(t, key, n, text))
				}
			}
		}
	}
	for long := range 300 {
		for _, text := range [][]byte{octets(2, long), make([]byte, long), bytes.Repeat([]byte{128}, long)} {
			if got, e := envelope.Tag(most, 7, text); got != tagged(t, most, 7, text) || e != api.OK {
				t.Fatalf("%v: got %#x, %d, want %#x", text, got, e, tagged(t, most, 7, text))
			}
		}
	}
}

// P9.1: the longest text has a Tag; a longer one is ErrLong, and the Tag is zero then.
func TestTagEdges(t *testing.T) {
	zeros := make([]byte, api.MaxText)
	if got, e := envelope.Tag(api.Words{1, 2, 3, 4}, 5, zeros); got != (api.Words{0x28b8aaeb, 0x6a272fcc, 0x9ce76c2f, 0x2c38d3ed}) || e != api.OK {
		t.Errorf("got %#x, %d", got, e)
	}
	for _, long := range []int{api.MaxText - 1, api.MaxText} {
		text := octets(3, long)
		if got, e := envelope.Tag(most, 5, text); got != tagged(t, most, 5, text) || e != api.OK {
			t.Errorf("%d: got %#x, %d", long, got, e)
		}
	}
	for _, long := range []int{api.MaxText + 1, api.MaxText + 8, api.MaxSqueeze - 9, api.MaxSqueeze, api.MaxSqueeze + 1} {
		for _, key := range keys() {
			if got, e := envelope.Tag(key, 5, make([]byte, long)); got != (api.Words{}) || e != api.ErrLong {
				t.Errorf("%#x, %d: got %#x, %d", key, long, got, e)
			}
		}
	}
}

// P9.1: a Tag is of none of what a Stream is squeezed out of, though the text is the same.
func TestTagIsNoStream(t *testing.T) {
	for _, key := range keys() {
		for _, n := range numbers() {
			tag, e := envelope.Tag(key, n, nil)
			stream, f := envelope.Stream(key, n, 8)
			if e != api.OK || f != api.OK || bytes.Equal(perm.Octets(tag)[:8], stream) {
				t.Errorf("%#x, %#x: got %#x, %d, and %v, %d", key, n, tag, e, stream, f)
			}
		}
	}
}
