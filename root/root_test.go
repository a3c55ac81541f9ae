package root_test

import (
	"bytes"
	"encoding/binary"
	"math"
	"math/rand/v2"
	"slices"
	"testing"

	"tansy/api"
	"tansy/root"
)

// of is a root, by its parts in their order.
func of(gen uint64, at, long, octets int, sum uint32, next uint64) api.Root {
	return api.Root{Gen: gen, S: api.Extent{At: at, Len: long}, Long: octets, Sum: sum, Next: next}
}

// mayBe is what the words tell of a root.
func mayBe(r api.Root) bool {
	if r.Gen == 0 || r.Gen > 1<<40 || r.Next > 1<<40 {
		return false
	}
	if r.S.At < 2 || r.S.At > 8191 || r.S.Len < 1 || r.S.Len > 8192 || r.S.At+r.S.Len > 8192 {
		return false
	}
	return 0 <= r.Long && r.Long <= 32*r.S.Len
}

// narrow is a number in so many octets, the lowest one first.
func narrow(n uint64, octets int) []byte {
	return binary.LittleEndian.AppendUint64(nil, n)[:octets]
}

// plain are a root's octets by the words, whether it may be or not: of numbers that are too wide, the lowest octets.
func plain(r api.Root) []byte {
	line := slices.Concat(narrow(r.Gen, 6), narrow(uint64(r.S.At), 2), narrow(uint64(r.S.Len), 2), narrow(uint64(r.Long), 3), narrow(uint64(r.Sum), 4), narrow(r.Next, 6), []byte{0})
	var b []byte
	for told := range slices.Chunk(line, 3) {
		b = append(append(b, byte(r.Gen)), told...)
	}
	return b
}

// number is what a few octets tell, the lowest one first.
func number(b []byte) uint64 {
	var n uint64
	for i, o := range b {
		n += uint64(o) << (8 * i)
	}
	return n
}

// told is what the words tell of octets: the root that may be, and whether there is one.
func told(b []byte) (api.Root, bool) {
	if len(b) != 32 {
		return api.Root{}, false
	}
	var line []byte
	for group := range slices.Chunk(b, 4) {
		if group[0] != b[1] {
			return api.Root{}, false
		}
		line = append(line, group[1:]...)
	}
	r := of(number(line[:6]), int(number(line[6:8])), int(number(line[8:10])), int(number(line[10:13])), uint32(number(line[13:17])), number(line[17:23]))
	if line[23] != 0 || !mayBe(r) {
		return api.Root{}, false
	}
	return r, true
}

// checks holds what Check, and Octets, tell of a root against the words, and what Of tells of the octets.
func checks(t *testing.T, r api.Root) {
	t.Helper()
	want, may := api.ErrArg, mayBe(r)
	var octets []byte
	if may {
		want, octets = api.OK, plain(r)
	}
	if e := root.Check(r); e != want {
		t.Fatalf("%v: got %d, want %d", r, e, want)
	}
	if b, e := root.Octets(r); e != want || !bytes.Equal(b, octets) {
		t.Fatalf("%v: got %v, %d, want %v, %d", r, b, e, octets, want)
	}
	reads(t, plain(r))
	if back, e := root.Of(octets); may && (back != r || e != api.OK) {
		t.Fatalf("%v: got %v, %d", r, back, e)
	}
}

// reads holds what Of tells of octets against the words, and is whether there is a root.
func reads(t *testing.T, b []byte) bool {
	t.Helper()
	want, may := told(b)
	f := api.OK
	if !may {
		f = api.ErrForm
	}
	if r, e := root.Of(b); r != want || e != f {
		t.Fatalf("%v: got %v, %d, want %v, %d", b, r, e, want, f)
	}
	return may
}

// refused takes it that octets are no root's.
func refused(t *testing.T, b []byte) {
	t.Helper()
	if reads(t, b) {
		t.Fatalf("%v: are a root's", b)
	}
}

// good are roots that may be, at the edges of what may.
func good() []api.Root {
	return []api.Root{
		of(1, 2, 1, 0, 0, 0),
		of(5, 2, 3, 70, 3421780262, 9),
		of(258, 8191, 1, 32, 1, 2),
		of(8640529670, 1800, 2314, 70000, 235868177, 77629494550),
		of(1<<40-1, 4660, 3000, 96000, 305419896, 0xfedcba9876),
		of(1<<40, 2, 8190, 262080, 1<<32-1, 1<<40),
	}
}

// bad are roots that may not be, each for one reason alone.
func bad() []api.Root {
	return []api.Root{
		{},
		of(0, 2, 3, 70, 1, 9), of(1<<40+1, 2, 3, 70, 1, 9), of(1<<48+5, 2, 3, 70, 1, 9), of(math.MaxUint64, 2, 3, 70, 1, 9),
		of(5, 1, 3, 70, 1, 9), of(5, 0, 3, 70, 1, 9), of(5, -1, 3, 70, 1, 9), of(5, math.MinInt, 3, 70, 1, 9), of(5, 8190, 3, 70, 1, 9), of(5, 8192, 3, 70, 1, 9), of(5, 65538, 3, 70, 1, 9), of(5, math.MaxInt, 3, 70, 1, 9),
		of(5, 2, 0, 0, 1, 9), of(5, 2, -1, 0, 1, 9), of(5, 2, math.MinInt, 0, 1, 9), of(5, 2, 8191, 70, 1, 9), of(5, 2, 65539, 70, 1, 9), of(5, 2, math.MaxInt, 70, 1, 9),
		of(5, 2, 3, -1, 1, 9), of(5, 2, 3, math.MinInt, 1, 9), of(5, 2, 3, 97, 1, 9), of(5, 2, 3, 1<<24, 1, 9), of(5, 2, 3, math.MaxInt, 1, 9), of(1<<40, 2, 8190, 262081, 1, 9),
		of(5, 2, 3, 70, 1, 1<<40+1), of(5, 2, 3, 70, 1, 1<<48), of(5, 2, 3, 70, 1, math.MaxUint64),
	}
}

// chance is a root that may be, by chance: of few generations, or of any.
func chance(x *rand.Rand) api.Root {
	r := of(1+x.Uint64N(1<<40>>x.IntN(38)), 2+x.IntN(8190), 1, 0, x.Uint32(), x.Uint64N((1<<40+1)>>x.IntN(38)))
	r.S.Len += x.IntN(8192 - r.S.At)
	r.Long = x.IntN(32*r.S.Len + 1)
	return r
}

// P16.1: known roots' octets, worked out apart from the program.
func TestKnown(t *testing.T) {
	l := good()
	for i, want := range [][]byte{
		{1, 1, 0, 0, 1, 0, 0, 0, 1, 2, 0, 1, 1, 0, 0, 0, 1, 0, 0, 0, 1, 0, 0, 0, 1, 0, 0, 0, 1, 0, 0, 0},
		{5, 5, 0, 0, 5, 0, 0, 0, 5, 2, 0, 3, 5, 0, 70, 0, 5, 0, 38, 57, 5, 244, 203, 9, 5, 0, 0, 0, 5, 0, 0, 0},
		{2, 2, 1, 0, 2, 0, 0, 0, 2, 255, 31, 1, 2, 0, 32, 0, 2, 0, 1, 0, 2, 0, 0, 2, 2, 0, 0, 0, 2, 0, 0, 0},
		{6, 6, 5, 4, 6, 3, 2, 0, 6, 8, 7, 10, 6, 9, 112, 17, 6, 1, 17, 16, 6, 15, 14, 22, 6, 21, 20, 19, 6, 18, 0, 0},
		{255, 255, 255, 255, 255, 255, 255, 0, 255, 52, 18, 184, 255, 11, 0, 119, 255, 1, 120, 86, 255, 52, 18, 118, 255, 152, 186, 220, 255, 254, 0, 0},
		{0, 0, 0, 0, 0, 0, 0, 1, 0, 2, 0, 254, 0, 31, 192, 255, 0, 3, 255, 255, 0, 255, 255, 0, 0, 0, 0, 0, 0, 0, 1, 0},
	} {
		if b, e := root.Octets(l[i]); !bytes.Equal(b, want) || e != api.OK {
			t.Errorf("%v: got %v, %d", l[i], b, e)
		}
		if r, e := root.Of(want); r != l[i] || e != api.OK {
			t.Errorf("%v: got %v, %d", want, r, e)
		}
	}
}

// P16.1: roots that may not be are ErrArg, and have no octets; what their octets would be is a root's only where these tell of another one.
func TestBad(t *testing.T) {
	for _, r := range bad() {
		b, f := root.Octets(r)
		if e := root.Check(r); e != api.ErrArg || f != api.ErrArg || len(b) != 0 {
			t.Errorf("%v: got %d, and %v, %d", r, e, b, f)
		}
		checks(t, r)
	}
}

// P16.1: all parts at their edges, and beyond, each with each.
func TestEdges(t *testing.T) {
	for _, gen := range []uint64{0, 1, 2, 255, 256, 1 << 32, 1<<40 - 1, 1 << 40, 1<<40 + 1, 1 << 48, math.MaxUint64} {
		for _, at := range []int{math.MinInt, -1, 0, 1, 2, 3, 4096, 8189, 8190, 8191, 8192, 65538, math.MaxInt} {
			for _, long := range []int{math.MinInt, -1, 0, 1, 2, 3, 4096, 4097, 8188, 8189, 8190, 8191, 8192, math.MaxInt - 1, math.MaxInt} {
				for _, octets := range []int{math.MinInt, -1, 0, 1, 31, 32, 33, 64, 65, 32 * 4096, 32*4096 + 1, 262080, 262081, 1 << 24, math.MaxInt} {
					for _, next := range []uint64{0, 1, 1<<40 - 1, 1 << 40, 1<<40 + 1, math.MaxUint64} {
						checks(t, of(gen, at, long, octets, uint32(gen+next), next))
					}
				}
			}
		}
	}
}

// P16.1: all places and lengths that are near both ends of the sectors, and all lengths of what stands there near the most.
func TestExtents(t *testing.T) {
	for from := range 6 {
		for _, at := range []int{from - 1, 8188 + from} {
			for n := -1; n < 9; n++ {
				for _, long := range []int{n, 8185 + n} {
					for d := -2; d <= 2; d++ {
						checks(t, of(7, at, long, 32*long+d, 8, 9))
						checks(t, of(7, at, long, d, 8, 9))
					}
				}
			}
		}
	}
}

// P16.1: roots by chance, and each octet of each number.
func TestChance(t *testing.T) {
	x := rand.New(rand.NewPCG(1, 16))
	for range 20000 {
		r := chance(x)
		if !mayBe(r) {
			t.Fatalf("%v may not be", r)
		}
		checks(t, r)
	}
	for o := range uint64(256) {
		for k := range 5 {
			checks(t, of(o<<(8*k), 2, 1, 0, 0, 0))
			checks(t, of(1, 2, 1, 0, uint32(o<<(8*k)), 0))
			checks(t, of(1, 2, 1, 0, 0, o<<(8*k)))
			checks(t, of(1, 2, 8190, int(o<<(8*k)), 0, 0))
			checks(t, of(1, 2, int(o<<(8*k)), 0, 0, 0))
			checks(t, of(1, int(o<<(8*k)), 1, 0, 0, 0))
		}
	}
}
