package solid_test

import (
	"bytes"
	"encoding/binary"
	"hash/crc32"
	"math/rand/v2"
	"slices"
	"testing"

	"tansy/api"
	"tansy/press"
	"tansy/solid"
)

// opened is what the words tell of a block.
func opened(t *testing.T, key api.Words, b []byte) ([]byte, api.Errno) {
	t.Helper()
	if len(b) > 131072 {
		return nil, api.ErrLong
	}
	if len(b) < 4 {
		return nil, api.ErrForm
	}
	box := b[:len(b)-4]
	if binary.LittleEndian.Uint32(b[len(box):]) != crc32.ChecksumIEEE(box) {
		return nil, api.ErrSum
	}
	if len(box) < 24 {
		return nil, api.ErrForm
	}
	if len(box) > 65560 {
		return nil, api.ErrLong
	}
	n, tag, hidden := binary.LittleEndian.Uint64(box), box[8:24], box[24:]
	if !bytes.Equal(tag, tagged(t, key, n, hidden)) {
		return nil, api.ErrTag
	}
	return press.Unpack(turned(t, key, n, hidden), 65536)
}

// opens holds what Open tells against the words, and is the error that it tells.
func opens(t *testing.T, key api.Words, b []byte) api.Errno {
	t.Helper()
	want, f := opened(t, key, b)
	got, e := solid.Open(key, b)
	if e != f || !bytes.Equal(got, want) || e != api.OK && len(got) != 0 || len(got) > api.MaxText {
		t.Fatalf("%#x, %d octets, %.99v: got %.99v, %d, want %.99v, %d", key, len(b), b, got, e, want, f)
	}
	return e
}

// refused takes it that Open tells this error, and so do the words.
func refused(t *testing.T, key api.Words, b []byte, want api.Errno) {
	t.Helper()
	if e := opens(t, key, b); e != want {
		t.Fatalf("%#x, %d octets, %.99v: got %d, want %d", key, len(b), b, e, want)
	}
}

// P15.1: ErrLong above MaxBlock octets, whatever they are; up to there the sum comes first, and then how long a box may be.
func TestOpenLong(t *testing.T) {
	whole := block(t, api.Ring{Key: few, Next: 5}, []byte("an archive"))
	for _, n := range []int{131073, 131074, 1 << 18, 1 << 20} {
		for _, ahead := range [][]byte{nil, {1}, whole, whole[:24]} {
			b := make([]byte, n)
			copy(b, ahead)
			refused(t, few, b, api.ErrLong)
			refused(t, few, summed(b[:n-4]), api.ErrLong)
		}
	}
	for _, n := range []int{65565, 65566, 100000, 131071, 131072} {
		b := octets(5, n, 256)
		refused(t, few, b, api.ErrSum)
		refused(t, few, summed(b[:n-4]), api.ErrLong)
	}
	for _, n := range []int{65563, 65564} {
		b := octets(6, n, 256)
		refused(t, few, b, api.ErrSum)
		refused(t, few, summed(b[:n-4]), api.ErrTag)
	}
}

// P15.1: ErrForm of fewer octets than a sum has, and of boxes that are none, if their sum is right, else ErrSum.
func TestOpenShort(t *testing.T) {
	refused(t, few, nil, api.ErrForm)
	for n := range 4 {
		for o := range 256 {
			refused(t, few, bytes.Repeat([]byte{byte(o)}, n), api.ErrForm)
		}
	}
	for n := range 24 {
		for _, kinds := range []int{1, 2, 256} {
			b := summed(octets(7, n, kinds))
			refused(t, few, b, api.ErrForm)
			for at := range b {
				other := bytes.Clone(b)
				other[at]++
				refused(t, few, other, api.ErrSum)
			}
		}
	}
	for n := 24; n < 100; n++ {
		refused(t, few, summed(octets(8, n, 256)), api.ErrTag)
	}
}

// P15.1: ErrTag of another key, also if it is another one in one bit alone.
func TestOpenKey(t *testing.T) {
	for _, text := range []string{"", "a", "an archive, an archive of many sessions"} {
		b := block(t, api.Ring{Key: few, Next: 5}, []byte(text))
		for i := range few {
			for k := range 32 {
				other := few
				other[i] ^= 1 << k
				refused(t, other, b, api.ErrTag)
			}
		}
		for _, other := range []api.Words{{}, most, {4, 3, 2, 1}} {
			refused(t, other, b, api.ErrTag)
		}
	}
}

// P15.1: with one octet of a block another one it is ErrSum; and ErrTag, if the sum behind is made right.
func TestOpenEachOctet(t *testing.T) {
	b := block(t, api.Ring{Key: few, Next: 5}, []byte("an archive, an archive"))
	for at := range b {
		for o := range 256 {
			if b[at] == byte(o) {
				continue
			}
			other := bytes.Clone(b)
			other[at] = byte(o)
			refused(t, few, other, api.ErrSum)
			if at < len(b)-4 {
				refused(t, few, summed(other[:len(b)-4]), api.ErrTag)
			}
		}
	}
}

// P15.1: blocks cut, or with octets behind, are ErrSum, or ErrForm, if there is not even a sum; with the sum made right they are ErrTag, or no box.
func TestOpenCut(t *testing.T) {
	b := block(t, api.Ring{Key: most, Next: 77}, octets(9, 60, 7))
	for n := range b {
		want := api.ErrSum
		if n < 4 {
			want = api.ErrForm
		}
		refused(t, most, b[:n], want)
		want = api.ErrTag
		if n < 24 {
			want = api.ErrForm
		}
		if n != len(b)-4 {
			refused(t, most, summed(b[:n]), want)
		}
	}
	for o := range 256 {
		more := append(bytes.Clone(b), byte(o))
		refused(t, most, more, api.ErrSum)
		refused(t, most, summed(more), api.ErrTag)
	}
	refused(t, most, slices.Concat(b, b), api.ErrSum)
}

// P15.1: ErrForm of what is sealed as it should be, but is no packed text: cut, with octets behind, telling more octets than a text has, or with any octet another one.
func TestOpenPacked(t *testing.T) {
	p := pack(t, []byte("aaaaabcab"))
	wrap := func(packed []byte) []byte { return summed(boxed(t, few, 5, packed)) }
	for n := range p {
		refused(t, few, wrap(p[:n]), api.ErrForm)
	}
	for o := range 256 {
		refused(t, few, wrap(append(bytes.Clone(p), byte(o))), api.ErrForm)
	}
	for _, told := range []uint32{0, 1, 8, 10, 65535, 65536, 65537, 1 << 31, 1<<32 - 1} {
		other := bytes.Clone(p)
		binary.LittleEndian.PutUint32(other, told)
		refused(t, few, wrap(other), api.ErrForm)
	}
	passed := 0
	for at := range p {
		for o := range 256 {
			other := bytes.Clone(p)
			other[at] = byte(o)
			if opens(t, few, wrap(other)) == api.OK {
				passed++
			}
		}
	}
	if passed < 300 {
		t.Errorf("only %d were opened", passed)
	}
}

// P15.1: the longest box that may be is opened: if what is packed in it is a text, that is told, else ErrForm.
func TestOpenLongest(t *testing.T) {
	text := packedTo(t, api.MaxText)
	b := block(t, api.Ring{Key: few, Next: 5}, text)
	if len(b) != 65564 {
		t.Fatalf("got %d octets", len(b))
	}
	refused(t, few, b, api.OK)
	refused(t, few, summed(boxed(t, few, 5, octets(10, api.MaxText, 256))), api.ErrForm)
	refused(t, few, summed(boxed(t, few, 5, make([]byte, api.MaxText))), api.ErrForm)
}

// P15.1: a box by the greatest number is opened, though none is sealed by it.
func TestOpenLastNumber(t *testing.T) {
	b := summed(boxed(t, few, 1<<64-1, pack(t, []byte("tansy"))))
	if text, e := solid.Open(few, b); string(text) != "tansy" || e != api.OK {
		t.Errorf("got %s, %d", text, e)
	}
}

// P15.4: whatever the octets are, there is a text, or an error: octets by chance, with a right sum, in a right box, and behind a right beginning of a packed text.
func TestChance(t *testing.T) {
	x := rand.New(rand.NewPCG(11, 15))
	seen := map[api.Errno]int{}
	for range 6000 {
		b := make([]byte, x.IntN(120))
		kinds := 1 + x.IntN(256)
		for i := range b {
			b[i] = byte(x.IntN(kinds))
		}
		key := []api.Words{{}, few, most}[x.IntN(3)]
		seen[opens(t, key, b)]++
		seen[opens(t, key, summed(b))]++
		seen[opens(t, key, summed(boxed(t, key, x.Uint64(), b)))]++
		for _, told := range []int{x.IntN(60), x.IntN(6)} {
			packed := append([]byte{byte(told), 0, 0, 0, 0}, b[:min(len(b), 4+x.IntN(told+1))]...)
			seen[opens(t, key, summed(boxed(t, key, x.Uint64(), packed)))]++
		}
	}
	for range 60 {
		b := octets(x.Int(), x.IntN(1<<16-5), 256)
		packed := append([]byte{byte(x.Uint32()), byte(x.Uint32()), byte(x.IntN(2)), 0, 0}, b...)
		seen[opens(t, few, summed(boxed(t, few, x.Uint64(), packed)))]++
		seen[opens(t, few, summed(octets(x.Int(), x.IntN(140000), 256)))]++
		seen[opens(t, few, octets(x.Int(), x.IntN(140000), 256))]++
	}
	for _, e := range []api.Errno{api.OK, api.ErrForm, api.ErrLong, api.ErrSum, api.ErrTag} {
		if seen[e] < 3 {
			t.Errorf("%d came %d times only", e, seen[e])
		}
	}
}
