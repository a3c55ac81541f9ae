package envelope_test

import (
	"bytes"
	"math"
	"testing"

	"tansy/api"
	"tansy/envelope"
)

// P9.4: what is sealed is opened with the same key, by way of its octets too; sealed again with its number it is what it was.
func TestSealedAndOpened(t *testing.T) {
	for _, key := range keys() {
		r := api.Ring{Key: key, Next: 1 << 33}
		for long := range 200 {
			text := octets(20, long)
			x, next, e := envelope.Seal(r, text)
			b, f := envelope.Bytes(x)
			y, g := envelope.From(b)
			if e != api.OK || f != api.OK || g != api.OK || !envelope.Same(x, y) {
				t.Fatalf("%d: got %#x, %#x, %d, %d, %d", long, x, y, e, f, g)
			}
			got, e := envelope.Open(key, y)
			if !bytes.Equal(got, text) || e != api.OK {
				t.Fatalf("%d: got %v, %d, want %v", long, got, e, text)
			}
			again, _, e := envelope.Seal(api.Ring{Key: key, Next: x.N}, got)
			if !envelope.Same(again, x) || e != api.OK {
				t.Fatalf("%d: got %#x, %d, want %#x", long, again, e, x)
			}
			r = next
		}
	}
}

// P9.4: what is opened, sealed again with that number, is what it was, though it was not Seal that made it.
func TestOpenedAndSealed(t *testing.T) {
	for i, key := range keys() {
		for _, n := range numbers() {
			if n == math.MaxUint64 {
				continue
			}
			hidden := octets(21+i, int(n%50))
			tag, e := envelope.Tag(key, n, hidden)
			x := api.Box{N: n, Text: hidden, Tag: tag}
			text, f := envelope.Open(key, x)
			again, r, g := envelope.Seal(api.Ring{Key: key, Next: n}, text)
			if !envelope.Same(again, x) || r != (api.Ring{Key: key, Next: n + 1}) || e != api.OK || f != api.OK || g != api.OK {
				t.Fatalf("%#x, %#x: got %#x, %#x, %d, %d, %d, want %#x", key, n, again, r, e, f, g, x)
			}
		}
	}
}

// P9.4: no two texts, sealed with one ring, are the same: of all texts of up to two octets each has a text, and a tag, of its own.
func TestNoTwoTexts(t *testing.T) {
	r := api.Ring{Key: api.Words{1, 2, 3, 4}, Next: 5}
	texts, tags := map[string]int{}, map[api.Words]int{}
	all := 0
	for long := range 3 {
		for i := range 1 << (8 * long) {
			x, _, e := envelope.Seal(r, []byte{byte(i), byte(i >> 8)}[:long])
			if e != api.OK {
				t.Fatalf("%d of %d: got %d", i, long, e)
			}
			texts[string(x.Text)]++
			tags[x.Tag]++
			all++
		}
	}
	if len(texts) != all || len(tags) != all {
		t.Errorf("got %d texts, and %d tags, of %d", len(texts), len(tags), all)
	}
}

// P9.4: no number comes twice, and one text, sealed again and again, is never what it was.
func TestNoNumberTwice(t *testing.T) {
	for _, next := range []uint64{0, 255, math.MaxUint32 - 500, api.MaxNext - 500, math.MaxInt64 - 500, math.MaxUint64 - 1001} {
		r := api.Ring{Key: most, Next: next}
		ns, seen := map[uint64]bool{}, map[string]bool{}
		for i := range 1000 {
			x, behind, e := envelope.Seal(r, []byte("an archive"))
			if e != api.OK || x.N != next+uint64(i) || ns[x.N] || seen[string(x.Text)] {
				t.Fatalf("%#x, %d: got %#x, %d", next, i, x, e)
			}
			ns[x.N], seen[string(x.Text)] = true, true
			r = behind
		}
	}
}

// P9.2, P9.4: a ring comes to its end, and has no number from then on.
func TestEnd(t *testing.T) {
	r := api.Ring{Key: api.Words{1, 2, 3, 4}, Next: math.MaxUint64 - 3}
	for i := range 3 {
		x, next, e := envelope.Seal(r, []byte("tansy"))
		if x.N != math.MaxUint64-3+uint64(i) || next.Key != r.Key || next.Next != r.Next+1 || e != api.OK {
			t.Fatalf("%d: got %#x, %#x, %d", i, x, next, e)
		}
		r = next
	}
	for range 3 {
		if x, next, e := envelope.Seal(r, []byte("tansy")); !isZero(x) || next != (api.Ring{}) || e != api.ErrFull {
			t.Errorf("got %#x, %#x, %d", x, next, e)
		}
	}
}

// P9.4: of a box's octets with one of them another one, or one less, or one more, no text is told.
func TestOneOctetOther(t *testing.T) {
	x, _, _ := envelope.Seal(api.Ring{Key: api.Words{1, 2, 3, 4}, Next: 5}, []byte("an archive"))
	b, _ := envelope.Bytes(x)
	for i := range b {
		for o := range 256 {
			other := bytes.Clone(b)
			other[i] = byte(o)
			y, e := envelope.From(other)
			if e != api.OK || envelope.Same(x, y) != (b[i] == byte(o)) {
				t.Fatalf("%v: got %#x, %d", other, y, e)
			}
			if b[i] != byte(o) {
				refused(t, api.Words{1, 2, 3, 4}, y, api.ErrTag)
			}
		}
		less, e := envelope.From(append(bytes.Clone(b[:i]), b[i+1:]...))
		if e != api.OK {
			t.Fatalf("%d: got %d", i, e)
		}
		refused(t, api.Words{1, 2, 3, 4}, less, api.ErrTag)
		more, e := envelope.From(append(append(bytes.Clone(b[:i]), 0), b[i:]...))
		if e != api.OK {
			t.Fatalf("%d: got %d", i, e)
		}
		refused(t, api.Words{1, 2, 3, 4}, more, api.ErrTag)
	}
}
