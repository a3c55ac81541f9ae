package envelope_test

import (
	"bytes"
	"encoding/binary"
	"math"
	"slices"
	"testing"

	"tansy/api"
	"tansy/envelope"
	"tansy/perm"
)

// either is a text exclusive or the Stream.
func either(t *testing.T, key api.Words, n uint64, text []byte) []byte {
	t.Helper()
	b := streamed(t, key, n, len(text))
	for i := range b {
		b[i] = (b[i] | text[i]) &^ (b[i] & text[i])
	}
	return b
}

// sealed is a text's box by a number, as the chapter's words say, whatever the number is.
func sealed(t *testing.T, key api.Words, n uint64, text []byte) api.Box {
	t.Helper()
	b := either(t, key, n, text)
	return api.Box{N: n, Text: b, Tag: tagged(t, key, n, b)}
}

// boxed are a box's octets, as the chapter's words say.
func boxed(x api.Box) []byte {
	b := binary.LittleEndian.AppendUint64(nil, x.N)
	for _, w := range x.Tag {
		b = binary.LittleEndian.AppendUint32(b, w)
	}
	return append(b, x.Text...)
}

// equal tells whether two boxes are the same.
func equal(a, b api.Box) bool {
	return a.N == b.N && string(a.Text) == string(b.Text) && a.Tag == b.Tag
}

// isZero tells whether a box is one with nothing in it.
func isZero(x api.Box) bool { return equal(x, api.Box{}) }

// texts are some of each kind.
func texts() [][]byte {
	l := [][]byte{nil, {}, []byte("tansy"), make([]byte, 20), bytes.Repeat([]byte{255}, 17), bytes.Repeat([]byte{128}, 8)}
	for n := range 34 {
		l = append(l, octets(4, n))
	}
	return l
}

// known are boxes that are known, and the texts in them.
func known() []struct {
	key  api.Words
	text string
	x    api.Box
} {
	return []struct {
		key  api.Words
		text string
		x    api.Box
	}{
		{api.Words{1, 2, 3, 4}, "", api.Box{N: 5, Tag: api.Words{0x2be058c0, 0xc694a23b, 0xc66e61ca, 0x52595ed3}}},
		{api.Words{1, 2, 3, 4}, "tansy", api.Box{N: 5, Text: []byte{223, 208, 75, 76, 229}, Tag: api.Words{0x18afddaf, 0xa8a20cb8, 0x2bd2b2d2, 0xa285f666}}},
		{api.Words{1, 2, 3, 4}, "12345678", api.Box{N: 5, Text: []byte{154, 131, 22, 11, 169, 61, 121, 207}, Tag: api.Words{0x6d8f80ab, 0xf623c63b, 0xfd0b5fe9, 0x5f76cdc8}}},
		{api.Words{1, 2, 3, 4}, "tansy", api.Box{N: math.MaxUint64 - 1, Text: []byte{20, 166, 193, 100, 20}, Tag: api.Words{0xb9c1abc4, 0xd7fe0a94, 0x92005804, 0x3523a720}}},
		{most, "12345678", api.Box{N: 5, Text: []byte{91, 243, 99, 104, 41, 179, 62, 77}, Tag: api.Words{0x748cb7ab, 0xcb93f610, 0xc494ffcc, 0x85babd36}}},
		{most, "", api.Box{N: math.MaxUint64 - 1, Tag: api.Words{0xd4ea3344, 0xdf8ba7fc, 0xc21839cf, 0x658b176c}}},
	}
}

// P9.2: texts of which the boxes are known; the ring behind them has one number more.
func TestSealKnown(t *testing.T) {
	for _, c := range known() {
		x, r, e := envelope.Seal(api.Ring{Key: c.key, Next: c.x.N}, []byte(c.text))
		if !equal(x, c.x) || r != (api.Ring{Key: c.key, Next: c.x.N + 1}) || e != api.OK {
			t.Errorf("%q: got %#x, %#x, %d, want %#x", c.text, x, r, e, c.x)
		}
		if got, e := envelope.Open(c.key, c.x); string(got) != c.text || e != api.OK {
			t.Errorf("%#x: got %q, %d, want %q", c.x, got, e, c.text)
		}
	}
}

// P9.2: texts sealed by many keys, and by many numbers, the greatest one but one among them.
func TestSeal(t *testing.T) {
	for _, key := range keys() {
		for _, n := range numbers() {
			if n == math.MaxUint64 {
				continue
			}
			for _, text := range texts() {
				x, r, e := envelope.Seal(api.Ring{Key: key, Next: n}, text)
				if !equal(x, sealed(t, key, n, text)) || r != (api.Ring{Key: key, Next: n + 1}) || e != api.OK {
					t.Fatalf("%#x, %#x, %v: got %#x, %#x, %d, want %#x", key, n, text, x, r, e, sealed(t, key, n, text))
				}
			}
		}
	}
}

// P9.2: the longest texts are sealed, and opened.
func TestLongest(t *testing.T) {
	key := api.Words{1, 2, 3, 4}
	x, r, e := envelope.Seal(api.Ring{Key: key, Next: 5}, make([]byte, api.MaxText))
	if !bytes.HasSuffix(x.Text, []byte{75, 99, 101, 165, 244, 37, 222, 72, 138}) || x.Tag != (api.Words{0xd61849ea, 0x3cb56748, 0x7e315f1d, 0x96925496}) || r.Next != 6 || e != api.OK {
		t.Errorf("got %#x, %#x, %d", x.Tag, r, e)
	}
	for _, long := range []int{api.MaxText - 1, api.MaxText} {
		text := octets(5, long)
		x, r, e := envelope.Seal(api.Ring{Key: key, Next: 9}, text)
		if !equal(x, sealed(t, key, 9, text)) || r != (api.Ring{Key: key, Next: 10}) || e != api.OK {
			t.Errorf("%d: got %d octets, %#x, %d", long, len(x.Text), r, e)
		}
		if got, e := envelope.Open(key, x); !bytes.Equal(got, text) || e != api.OK {
			t.Errorf("%d: got %d octets, %d", long, len(got), e)
		}
	}
}

// P9.2: ErrLong, if a text has too many octets, ahead of ErrFull, if the ring has no number more; all else is zero then.
func TestSealWrong(t *testing.T) {
	for _, key := range keys() {
		for _, c := range []struct {
			next uint64
			long int
			want api.Errno
		}{
			{0, api.MaxText + 1, api.ErrLong},
			{5, api.MaxText + 24, api.ErrLong},
			{5, api.MaxSqueeze + 1, api.ErrLong},
			{math.MaxUint64 - 1, api.MaxText + 1, api.ErrLong},
			{math.MaxUint64, api.MaxText + 1, api.ErrLong},
			{math.MaxUint64, api.MaxText, api.ErrFull},
			{math.MaxUint64, 5, api.ErrFull},
			{math.MaxUint64, 0, api.ErrFull},
		} {
			x, r, e := envelope.Seal(api.Ring{Key: key, Next: c.next}, make([]byte, c.long))
			if !isZero(x) || r != (api.Ring{}) || e != c.want {
				t.Errorf("%#x, %d: got %#x, %#x, %d, want %d", c.next, c.long, x.N, r, e, c.want)
			}
		}
	}
}

// P9.2: boxes made as the words say are opened, whatever their number is, the greatest one too.
func TestOpen(t *testing.T) {
	for _, key := range keys() {
		for _, n := range numbers() {
			for _, text := range texts() {
				if got, e := envelope.Open(key, sealed(t, key, n, text)); !bytes.Equal(got, text) || e != api.OK {
					t.Fatalf("%#x, %#x: got %v, %d, want %v", key, n, got, e, text)
				}
			}
		}
	}
}

// refused holds that a box is not opened, and that nothing is told of it.
func refused(t *testing.T, key api.Words, x api.Box, want api.Errno) {
	t.Helper()
	if got, e := envelope.Open(key, x); len(got) != 0 || e != want {
		t.Errorf("%#x, %d octets, %#x by %#x: got %v, %d, want %d", x.N, len(x.Text), x.Tag, key, got, e, want)
	}
}

// P9.2: a box whose Tag has one more bit turned is ErrTag, as the chapter's example says; so is one with another Tag.
func TestOpenTag(t *testing.T) {
	for _, key := range keys() {
		for _, text := range [][]byte{nil, []byte("tansy"), octets(6, 40)} {
			x := sealed(t, key, 77, text)
			for i := range 4 {
				for k := range 32 {
					other := x
					other.Tag[i] ^= 1 << k
					refused(t, key, other, api.ErrTag)
				}
			}
			for _, tag := range []api.Words{{}, most, {x.Tag[1], x.Tag[0], x.Tag[2], x.Tag[3]}, {x.Tag[0], x.Tag[1], x.Tag[3], x.Tag[2]}, tagged(t, key, 77, text)} {
				if tag != x.Tag {
					refused(t, key, api.Box{N: 77, Text: x.Text, Tag: tag}, api.ErrTag)
				}
			}
		}
	}
}

// P9.2: a box with another text, another number, or opened with another key, is ErrTag.
func TestOpenOther(t *testing.T) {
	key := api.Words{1, 2, 3, 4}
	for long := range 30 {
		x := sealed(t, key, 77, octets(7, long))
		for i := range x.Text {
			for _, by := range []byte{1, 2, 64, 128, 255} {
				other := api.Box{N: x.N, Text: bytes.Clone(x.Text), Tag: x.Tag}
				other.Text[i] ^= by
				refused(t, key, other, api.ErrTag)
			}
			refused(t, key, api.Box{N: x.N, Text: x.Text[:i], Tag: x.Tag}, api.ErrTag)
			refused(t, key, api.Box{N: x.N, Text: x.Text[i+1:], Tag: x.Tag}, api.ErrTag)
		}
		for _, more := range [][]byte{{0}, {128}, {255}, make([]byte, 8)} {
			refused(t, key, api.Box{N: x.N, Text: slices.Concat(x.Text, more), Tag: x.Tag}, api.ErrTag)
			refused(t, key, api.Box{N: x.N, Text: slices.Concat(more, x.Text), Tag: x.Tag}, api.ErrTag)
		}
		for k := range 64 {
			refused(t, key, api.Box{N: x.N ^ 1<<k, Text: x.Text, Tag: x.Tag}, api.ErrTag)
		}
		for k := range 128 {
			other := key
			other[k/32] ^= 1 << (k % 32)
			refused(t, other, x, api.ErrTag)
		}
	}
}

// P9.2: ErrLong, if a box's text has too many octets, ahead of ErrTag, even if the Tag is that of the words.
func TestOpenLong(t *testing.T) {
	for _, long := range []int{api.MaxText + 1, api.MaxText + 24, api.MaxSqueeze - 9, api.MaxSqueeze, api.MaxSqueeze + 1} {
		for _, key := range keys() {
			refused(t, key, api.Box{N: 5, Text: make([]byte, long)}, api.ErrLong)
		}
	}
	for _, long := range []int{api.MaxText + 1, api.MaxSqueeze - 9} {
		b := octets(8, long)
		refused(t, most, api.Box{N: 5, Text: b, Tag: tagged(t, most, 5, b)}, api.ErrLong)
	}
	refused(t, most, api.Box{N: 5, Text: make([]byte, api.MaxText)}, api.ErrTag)
}

// boxes are some of each kind, sealed by a key and not.
func boxes(t *testing.T) []api.Box {
	l := []api.Box{{}, {N: 1}, {N: math.MaxUint64, Tag: most}, {Text: []byte{7}}, {Text: []byte{}, Tag: api.Words{1}}, {N: 0x0807060504030201, Text: []byte{25, 26}, Tag: api.Words{0x0c0b0a09, 0x100f0e0d, 0x14131211, 0x18171615}}}
	for _, n := range numbers() {
		l = append(l, api.Box{N: n, Text: octets(9, int(n%11)), Tag: api.Words{uint32(n), 2, uint32(n >> 32), 4}})
	}
	for _, text := range texts() {
		l = append(l, sealed(t, most, 3, text))
	}
	return l
}

// P9.3: boxes of which the octets are known.
func TestBytesKnown(t *testing.T) {
	for _, c := range []struct {
		x api.Box
		b []byte
	}{
		{api.Box{}, make([]byte, 24)},
		{known()[0].x, []byte{5, 0, 0, 0, 0, 0, 0, 0, 192, 88, 224, 43, 59, 162, 148, 198, 202, 97, 110, 198, 211, 94, 89, 82}},
		{known()[1].x, []byte{5, 0, 0, 0, 0, 0, 0, 0, 175, 221, 175, 24, 184, 12, 162, 168, 210, 178, 210, 43, 102, 246, 133, 162, 223, 208, 75, 76, 229}},
		{known()[3].x, []byte{254, 255, 255, 255, 255, 255, 255, 255, 196, 171, 193, 185, 148, 10, 254, 215, 4, 88, 0, 146, 32, 167, 35, 53, 20, 166, 193, 100, 20}},
		{api.Box{N: 0x0807060504030201, Text: []byte{25, 26}, Tag: api.Words{0x0c0b0a09, 0x100f0e0d, 0x14131211, 0x18171615}}, []byte{1, 2, 3, 4, 5, 6, 7, 8, 9, 10, 11, 12, 13, 14, 15, 16, 17, 18, 19, 20, 21, 22, 23, 24, 25, 26}},
	} {
		if got, e := envelope.Bytes(c.x); !bytes.Equal(got, c.b) || e != api.OK {
			t.Errorf("%#x: got %v, %d, want %v", c.x, got, e, c.b)
		}
		if got, e := envelope.From(c.b); !equal(got, c.x) || e != api.OK {
			t.Errorf("%v: got %#x, %d, want %#x", c.b, got, e, c.x)
		}
	}
}

// P9.3: a box's octets, and the box of them, whether it was sealed or not.
func TestBytesAndFrom(t *testing.T) {
	for _, x := range boxes(t) {
		b, e := envelope.Bytes(x)
		if !bytes.Equal(b, boxed(x)) || e != api.OK {
			t.Errorf("%#x: got %v, %d, want %v", x, b, e, boxed(x))
		}
		if got, e := envelope.From(boxed(x)); !equal(got, x) || e != api.OK {
			t.Errorf("%#x: got %#x, %d", x, got, e)
		}
	}
}

// P9.3: whatever octets there are, from 24 on, they are a box's; each of the first ones has its own place.
func TestFromEach(t *testing.T) {
	for n := 24; n < 200; n++ {
		b := octets(10, n)
		x, e := envelope.From(b)
		if !bytes.Equal(boxed(x), b) || e != api.OK {
			t.Fatalf("%v: got %#x, %d", b, x, e)
		}
	}
	for i := range 24 {
		for o := range 256 {
			b := make([]byte, 24)
			b[i] = byte(o)
			var want api.Box
			if i < 8 {
				want.N = uint64(o) << (8 * i)
			} else {
				want.Tag[i/4-2] = uint32(o) << (i % 4 * 8)
			}
			if got, e := envelope.From(b); !equal(got, want) || e != api.OK {
				t.Fatalf("%v: got %#x, %d, want %#x", b, got, e, want)
			}
		}
	}
}

// P9.3: ErrLong, if a box's text has too many octets, and there are none then; the longest one has octets.
func TestBytesLong(t *testing.T) {
	for _, long := range []int{api.MaxText - 1, api.MaxText} {
		x := api.Box{N: 5, Text: octets(11, long), Tag: most}
		b, e := envelope.Bytes(x)
		if !bytes.Equal(b, boxed(x)) || e != api.OK {
			t.Errorf("%d: got %d octets, %d", long, len(b), e)
		}
		if got, e := envelope.From(b); !equal(got, x) || e != api.OK {
			t.Errorf("%d: got %d octets, %d", long, len(got.Text), e)
		}
	}
	for _, long := range []int{api.MaxText + 1, api.MaxText + 24, api.MaxSqueeze, api.MaxSqueeze + 1} {
		if got, e := envelope.Bytes(api.Box{N: 5, Text: make([]byte, long), Tag: most}); len(got) != 0 || e != api.ErrLong {
			t.Errorf("%d: got %d octets, %d", long, len(got), e)
		}
	}
}

// P9.3: ErrForm, if there are fewer than 24 octets, ErrLong, if there are more than the longest text and 24; the box is zero then.
func TestFromWrong(t *testing.T) {
	for n := range 24 {
		for _, b := range [][]byte{make([]byte, n), octets(12, n), octets(12, 40)[:n]} {
			if got, e := envelope.From(b); !isZero(got) || e != api.ErrForm {
				t.Errorf("%v: got %#x, %d", b, got, e)
			}
		}
	}
	if got, e := envelope.From(nil); !isZero(got) || e != api.ErrForm {
		t.Errorf("got %#x, %d", got, e)
	}
	for _, n := range []int{api.MaxText + 25, api.MaxText + 26, api.MaxSqueeze, api.MaxSqueeze + 25} {
		if got, e := envelope.From(octets(13, n)); !isZero(got) || e != api.ErrLong {
			t.Errorf("%d: got %#x, %d octets, %d", n, got.N, len(got.Text), e)
		}
	}
}

// P9.3: boxes are the same if all their parts are, however they were made.
func TestSame(t *testing.T) {
	l := boxes(t)
	for _, a := range l {
		for _, b := range l {
			other := api.Box{N: b.N, Text: slices.Clone(b.Text), Tag: b.Tag}
			if got, want := envelope.Same(a, other), equal(a, b); got != want {
				t.Errorf("%#x and %#x: got %t", a, b, got)
			}
		}
	}
}

// P9.3: boxes that are not the same in one bit of one part, or in the text's length, are not the same; texts that are too long are held against each other as well.
func TestSameEachPart(t *testing.T) {
	for _, long := range []int{1, 5, 24, api.MaxText, api.MaxText + 1} {
		x := api.Box{N: 5, Text: octets(14, long), Tag: perm.Perm(most)}
		l := []api.Box{
			{N: 5, Text: x.Text[:long-1], Tag: x.Tag},
			{N: 5, Text: append(bytes.Clone(x.Text), 0), Tag: x.Tag},
			{N: 5, Tag: x.Tag},
			{N: 5, Text: x.Text},
		}
		for k := range 64 {
			l = append(l, api.Box{N: 5 ^ 1<<k, Text: x.Text, Tag: x.Tag})
		}
		for k := range 128 {
			tag := x.Tag
			tag[k/32] ^= 1 << (k % 32)
			l = append(l, api.Box{N: 5, Text: x.Text, Tag: tag})
		}
		for _, i := range []int{0, long / 2, long - 1} {
			text := bytes.Clone(x.Text)
			text[i] ^= 16
			l = append(l, api.Box{N: 5, Text: text, Tag: x.Tag})
		}
		for _, y := range l {
			if envelope.Same(x, y) || envelope.Same(y, x) {
				t.Errorf("%d: got that %#x, %d octets, %#x are the same", long, y.N, len(y.Text), y.Tag)
			}
		}
		if !envelope.Same(x, api.Box{N: 5, Text: bytes.Clone(x.Text), Tag: x.Tag}) {
			t.Errorf("%d: got that it is not the same", long)
		}
	}
}
