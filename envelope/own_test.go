package envelope_test

import (
	"bytes"
	"math"
	"testing"

	"tansy/api"
	"tansy/envelope"
)

// scribble writes into a list, and into the room behind it.
func scribble(b []byte) {
	b = b[:cap(b)]
	for i := range b {
		b[i] ^= 0xEE
	}
}

// kept are a box's parts that do not share anything with it.
func kept(x api.Box) api.Box { return api.Box{N: x.N, Text: bytes.Clone(x.Text), Tag: x.Tag} }

// R2: a text that is handed in is as it was, and so is the room ahead of it, and behind it.
func TestOwnTexts(t *testing.T) {
	all := octets(30, 64)
	was := bytes.Clone(all)
	r := api.Ring{Key: api.Words{1, 2, 3, 4}, Next: 5}
	for n := range 41 {
		for from := range 9 {
			text := all[from : from+n]
			envelope.Tag(r.Key, 5, text)
			envelope.Seal(r, text)
			envelope.Open(r.Key, api.Box{N: 5, Text: text})
			envelope.Open(r.Key, api.Box{N: 5, Text: text, Tag: tagged(t, r.Key, 5, text)})
			envelope.Bytes(api.Box{N: 5, Text: text, Tag: most})
			envelope.Same(api.Box{Text: text}, api.Box{Text: all[:n]})
			if x, e := envelope.From(text); e == api.OK {
				scribble(x.Text)
			}
			if !bytes.Equal(all, was) {
				t.Fatalf("%d from %d: %v was handed in", n, from, all)
			}
		}
	}
	if r != (api.Ring{Key: api.Words{1, 2, 3, 4}, Next: 5}) {
		t.Errorf("got the ring %#x", r)
	}
}

// R2: what is answered does not change when somebody writes into what was handed in.
func TestOwnInputs(t *testing.T) {
	r := api.Ring{Key: most, Next: 7}
	for n := range 60 {
		text := octets(31, n)
		x, _, _ := envelope.Seal(r, text)
		want := kept(x)
		scribble(text)
		if !equal(x, want) {
			t.Errorf("%d: got another box behind a scribble into its text", n)
		}
		opened, _ := envelope.Open(most, x)
		b, _ := envelope.Bytes(x)
		scribble(x.Text)
		if !bytes.Equal(opened, octets(31, n)) || !bytes.Equal(b, boxed(want)) {
			t.Errorf("%d: got other octets behind a scribble into a box", n)
		}
		y, _ := envelope.From(b)
		scribble(b)
		if !equal(y, want) {
			t.Errorf("%d: got another box behind a scribble into its octets", n)
		}
	}
}

// lists are all calls that answer octets, of a text.
func lists(t *testing.T) map[string]func([]byte) []byte {
	return map[string]func([]byte) []byte{
		"Stream": func(text []byte) []byte {
			b, _ := envelope.Stream(most, 5, len(text))
			return b
		},
		"Seal": func(text []byte) []byte {
			x, _, _ := envelope.Seal(api.Ring{Key: most, Next: 5}, text)
			return x.Text
		},
		"Open": func(text []byte) []byte {
			b, _ := envelope.Open(most, api.Box{N: 5, Text: text, Tag: tagged(t, most, 5, text)})
			return b
		},
		"Bytes": func(text []byte) []byte {
			b, _ := envelope.Bytes(api.Box{N: 5, Text: text, Tag: most})
			return b
		},
		"From": func(text []byte) []byte {
			x, _ := envelope.From(append(make([]byte, 24), text...))
			return x.Text
		},
	}
}

// R2: each answer is the caller's own, whoever writes into another one.
func TestOwnAnswers(t *testing.T) {
	for what, call := range lists(t) {
		for _, n := range []int{0, 1, 7, 8, 9, 24, 40, 1000, api.MaxText} {
			text := octets(32, n)
			got := call(text)
			want := bytes.Clone(got)
			call(octets(33, 50))
			if !bytes.Equal(got, want) {
				t.Errorf("%s, %d: got another answer behind another text's", what, n)
			}
			scribble(call(text))
			if !bytes.Equal(got, want) {
				t.Errorf("%s, %d: got another answer behind a scribble into another one", what, n)
			}
			scribble(got)
			if again := call(text); !bytes.Equal(again, want) || !bytes.Equal(text, octets(32, n)) {
				t.Errorf("%s, %d: got another answer behind a scribble into it", what, n)
			}
		}
	}
}

// R3: no octets, and an empty list of them, are the same.
func TestNothing(t *testing.T) {
	r := api.Ring{Key: most, Next: 5}
	none := [][]byte{nil, {}, octets(34, 9)[:0], octets(34, 9)[9:]}
	for _, text := range none {
		tag, e := envelope.Tag(most, 5, text)
		if tag != tagged(t, most, 5, nil) || e != api.OK {
			t.Errorf("got %#x, %d", tag, e)
		}
		x, _, e := envelope.Seal(r, text)
		if !equal(x, api.Box{N: 5, Tag: tag}) || e != api.OK {
			t.Errorf("got %#x, %d", x, e)
		}
		if got, e := envelope.Open(most, api.Box{N: 5, Text: text, Tag: tag}); len(got) != 0 || e != api.OK {
			t.Errorf("got %v, %d", got, e)
		}
		if got, e := envelope.Bytes(api.Box{N: 5, Text: text, Tag: tag}); !bytes.Equal(got, boxed(x)) || e != api.OK {
			t.Errorf("got %v, %d", got, e)
		}
		if got, e := envelope.From(text); !isZero(got) || e != api.ErrForm {
			t.Errorf("got %#x, %d", got, e)
		}
		for _, other := range none {
			if !envelope.Same(api.Box{N: 5, Text: text, Tag: tag}, api.Box{N: 5, Text: other, Tag: tag}) {
				t.Errorf("%#v and %#v: got that they are not the same", text, other)
			}
		}
	}
}

// R1, R5: asked again, and behind calls that end with an error, each call answers the same; nothing is kept.
func TestAgain(t *testing.T) {
	key, text := api.Words{9, 8, 7, 6}, octets(35, 50)
	want := sealed(t, key, 5, text)
	for range 3 {
		envelope.Stream(key, 5, -1)
		envelope.Tag(key, 5, make([]byte, api.MaxText+1))
		envelope.Seal(api.Ring{Key: key, Next: math.MaxUint64}, text)
		envelope.Open(most, want)
		envelope.Bytes(api.Box{Text: make([]byte, api.MaxText+1)})
		envelope.From(text[:23])
		stream, e := envelope.Stream(key, 5, 50)
		tag, f := envelope.Tag(key, 5, want.Text)
		if !bytes.Equal(stream, streamed(t, key, 5, 50)) || tag != want.Tag || e != api.OK || f != api.OK {
			t.Errorf("got %v, %d, %#x, %d", stream, e, tag, f)
		}
		x, r, e := envelope.Seal(api.Ring{Key: key, Next: 5}, text)
		got, f := envelope.Open(key, x)
		if !equal(x, want) || r.Next != 6 || !bytes.Equal(got, text) || e != api.OK || f != api.OK {
			t.Errorf("got %#x, %#x, %d, %v, %d", x, r, e, got, f)
		}
		b, e := envelope.Bytes(x)
		y, f := envelope.From(b)
		if !bytes.Equal(b, boxed(want)) || !envelope.Same(x, y) || e != api.OK || f != api.OK {
			t.Errorf("got %v, %d, %#x, %d", b, e, y, f)
		}
	}
}
