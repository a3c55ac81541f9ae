package solid_test

import (
	"bytes"
	"encoding/binary"
	"hash/crc32"
	"math"
	"math/rand/v2"
	"testing"

	"tansy/api"
	"tansy/envelope"
	"tansy/press"
	"tansy/solid"
)

// most is a key all bits of which are set.
var most = api.Words{math.MaxUint32, math.MaxUint32, math.MaxUint32, math.MaxUint32}

// few is a plain key.
var few = api.Words{1, 2, 3, 4}

// octets are n, by chance, of so many kinds, which follow from the numbers handed in alone.
func octets(seed, n, kinds int) []byte {
	x := rand.New(rand.NewPCG(uint64(seed), uint64(n)))
	b := make([]byte, n)
	for i := range b {
		b[i] = byte(x.IntN(kinds))
	}
	return b
}

// summed is b, and its check sum in four octets, the lowest one first.
func summed(b []byte) []byte {
	return binary.LittleEndian.AppendUint32(bytes.Clone(b), crc32.ChecksumIEEE(b))
}

// turned is b, exclusive or what it is hidden by.
func turned(t *testing.T, key api.Words, n uint64, b []byte) []byte {
	t.Helper()
	s, e := envelope.Stream(key, n, len(b))
	if e != api.OK {
		t.Fatalf("%d octets: got %d", len(b), e)
	}
	for i := range s {
		s[i] ^= b[i]
	}
	return s
}

// tagged are the octets of the tag of what is hidden.
func tagged(t *testing.T, key api.Words, n uint64, hidden []byte) []byte {
	t.Helper()
	tag, e := envelope.Tag(key, n, hidden)
	if e != api.OK {
		t.Fatalf("%d octets: got %d", len(hidden), e)
	}
	var b []byte
	for _, w := range tag {
		b = binary.LittleEndian.AppendUint32(b, w)
	}
	return b
}

// boxed are a box's octets: of a number, and of what is sealed by that, be it packed or not.
func boxed(t *testing.T, key api.Words, n uint64, packed []byte) []byte {
	t.Helper()
	hidden := turned(t, key, n, packed)
	b := binary.LittleEndian.AppendUint64(nil, n)
	return append(append(b, tagged(t, key, n, hidden)...), hidden...)
}

// pack is a text, packed.
func pack(t *testing.T, b []byte) []byte {
	t.Helper()
	p, e := press.Pack(b)
	if e != api.OK {
		t.Fatalf("%d octets: got %d", len(b), e)
	}
	return p
}

// block is a text's block, as the chapter's words say.
func block(t *testing.T, r api.Ring, b []byte) []byte {
	t.Helper()
	return summed(boxed(t, r.Key, r.Next, pack(t, b)))
}

// rings are rings of some keys, and numbers.
func rings() []api.Ring {
	return []api.Ring{
		{}, {Key: few, Next: 5}, {Key: few, Next: 256}, {Key: most, Next: api.MaxNext}, {Key: most, Next: api.MaxNext + 1},
		{Key: api.Words{0xdeadbeef, 0x01020304, 1 << 31, 7}, Next: 0x0807060504030201}, {Key: most, Next: math.MaxUint64 - 1},
	}
}

// seals holds what Seal tells against the words, and takes it that Open tells the text.
func seals(t *testing.T, r api.Ring, text []byte) {
	t.Helper()
	got, behind, e := solid.Seal(r, text)
	if !bytes.Equal(got, block(t, r, text)) || behind != (api.Ring{Key: r.Key, Next: r.Next + 1}) || e != api.OK {
		t.Fatalf("%#x, %.99v: got %.99v, %#x, %d", r, text, got, behind, e)
	}
	back, e := solid.Open(r.Key, got)
	if !bytes.Equal(back, text) || e != api.OK {
		t.Fatalf("%#x, %.99v: opened it is %.99v, %d", r, text, back, e)
	}
}

// unsealed takes it that Seal tells this error, and nothing else.
func unsealed(t *testing.T, r api.Ring, text []byte, want api.Errno) {
	t.Helper()
	if got, behind, e := solid.Seal(r, text); len(got) != 0 || behind != (api.Ring{}) || e != want {
		t.Errorf("%#x, %d octets: got %.99v, %#x, %d, want %d", r, len(text), got, behind, e, want)
	}
}

// P15.1: blocks that are known.
func TestKnown(t *testing.T) {
	for _, c := range []struct {
		r    api.Ring
		text string
		want []byte
	}{
		{api.Ring{Key: few, Next: 5}, "", []byte{
			5, 0, 0, 0, 0, 0, 0, 0, 111, 242, 59, 171, 83, 184, 5, 34, 57, 239, 45, 1, 238, 160, 202, 60,
			171, 177, 37, 63, 156, 11, 78, 247, 169, 40, 107, 248, 207}},
		{api.Ring{Key: few, Next: 5}, "abc", []byte{
			5, 0, 0, 0, 0, 0, 0, 0, 26, 154, 251, 165, 208, 248, 134, 121, 231, 37, 102, 213, 47, 72, 47, 186,
			168, 177, 37, 63, 156, 59, 215, 92, 31, 134, 2, 25, 139, 37, 175, 5}},
		{api.Ring{Key: few, Next: 6}, "aaaaa", []byte{
			6, 0, 0, 0, 0, 0, 0, 0, 228, 180, 228, 0, 151, 128, 92, 216, 70, 21, 73, 17, 175, 163, 119, 148,
			47, 169, 121, 54, 10, 134, 128, 2, 184, 219, 95, 105, 224, 128, 160}},
		{api.Ring{}, "tansy", []byte{
			0, 0, 0, 0, 0, 0, 0, 0, 200, 151, 175, 231, 50, 125, 68, 24, 23, 54, 96, 133, 2, 88, 76, 133,
			214, 91, 67, 180, 153, 19, 242, 184, 79, 31, 97, 82, 250, 29, 202, 166, 173, 169}},
		{api.Ring{Key: most, Next: math.MaxUint64 - 1}, "an archive, an archive of many sessions", []byte{
			254, 255, 255, 255, 255, 255, 255, 255, 64, 231, 201, 214, 135, 247, 67, 252, 68, 153, 105, 71, 36, 136, 151, 98,
			46, 203, 72, 253, 204, 208, 52, 135, 156, 97, 19, 29, 53, 108, 143, 206, 249, 223, 99, 114, 41, 253, 215, 87, 160, 146, 99,
			234, 242, 185, 89, 39, 203, 74, 201, 164, 95, 174, 98, 208, 84, 255}},
	} {
		got, behind, e := solid.Seal(c.r, []byte(c.text))
		if !bytes.Equal(got, c.want) || behind != (api.Ring{Key: c.r.Key, Next: c.r.Next + 1}) || e != api.OK {
			t.Errorf("%#x, %s: got %v, %#x, %d", c.r, c.text, got, behind, e)
		}
		if text, e := solid.Open(c.r.Key, c.want); string(text) != c.text || e != api.OK {
			t.Errorf("%#x, %s: opened it is %s, %d", c.r, c.text, text, e)
		}
	}
}

// P15.1: blocks of all texts of up to one octet, of those of few octets, and of texts by chance, by rings of each kind.
func TestSeal(t *testing.T) {
	for _, r := range rings() {
		seals(t, r, nil)
		for o := range 256 {
			seals(t, r, []byte{byte(o)})
		}
		for n := 2; n < 400; n += 1 + n/4 {
			for _, kinds := range []int{1, 2, 5, 256} {
				seals(t, r, octets(1, n, kinds))
			}
		}
	}
	for i := range 1 << 12 {
		text := make([]byte, 6)
		for k := range text {
			text[k] = 'a' + byte(i>>(2*k)&3)
		}
		seals(t, api.Ring{Key: few, Next: uint64(i)}, text)
	}
	for n := 500; n < 1<<16; n *= 3 {
		seals(t, api.Ring{Key: most, Next: uint64(n)}, octets(2, n, 16))
	}
}

// P15.1: a text of as many octets as may be is sealed, and opened, if it can be packed well enough.
func TestSealLongest(t *testing.T) {
	r := api.Ring{Key: few, Next: 7}
	for _, n := range []int{api.MaxText - 1, api.MaxText} {
		seals(t, r, make([]byte, n))
		seals(t, r, octets(3, n, 2))
		seals(t, r, bytes.Repeat([]byte("an archive of many sessions\n"), n/28+1)[:n])
	}
}

// P15.1: ErrLong of texts of more octets than may be, however well they could be packed, and ahead of ErrFull.
func TestSealTooLong(t *testing.T) {
	for _, r := range append(rings(), api.Ring{Key: few, Next: math.MaxUint64}) {
		for _, n := range []int{api.MaxText + 1, api.MaxText + 8, api.MaxBlock, api.MaxBlock + 1, 1 << 20} {
			unsealed(t, r, make([]byte, n), api.ErrLong)
		}
	}
}

// P15.1: ErrFull at the end of a ring.
func TestSealFull(t *testing.T) {
	for _, key := range []api.Words{{}, few, most} {
		for _, n := range []int{0, 1, 5, 1000, api.MaxText} {
			unsealed(t, api.Ring{Key: key, Next: math.MaxUint64}, make([]byte, n), api.ErrFull)
		}
	}
}

// packedTo is a text that is packed into just so many octets.
func packedTo(t *testing.T, want int) []byte {
	t.Helper()
	for seed := range 20 {
		all := octets(1000+seed, api.MaxText, 256)
		n := want * 31 / 32
		for range 8 {
			// An octet by chance is packed into little more than one, so this comes close soon, and often just there.
			d := want - len(pack(t, all[:n]))
			if d == 0 {
				return all[:n]
			}
			n = min(n+d, len(all))
		}
	}
	t.Fatalf("found no text that is packed into %d octets", want)
	return nil
}

// P15.1: a text is sealed that is packed into just as many octets as a text may have; ErrLong above, though the text itself is short enough, and ahead of ErrFull.
func TestSealPackedLong(t *testing.T) {
	r, full := api.Ring{Key: few, Next: 9}, api.Ring{Key: few, Next: math.MaxUint64}
	for _, n := range []int{api.MaxText - 1, api.MaxText} {
		text := packedTo(t, n)
		seals(t, r, text)
		unsealed(t, full, text, api.ErrFull)
	}
	for _, text := range [][]byte{packedTo(t, api.MaxText+1), octets(4, api.MaxText, 256)} {
		if len(text) > api.MaxText || len(pack(t, text)) <= api.MaxText {
			t.Fatalf("%d octets", len(text))
		}
		unsealed(t, r, text, api.ErrLong)
		unsealed(t, full, text, api.ErrLong)
	}
}
