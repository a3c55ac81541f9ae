package press_test

import (
	"bytes"
	"slices"
	"testing"

	"tansy/api"
	"tansy/press"
)

// scribble writes into a text, and into the room behind it.
func scribble(b []byte) {
	b = b[:cap(b)]
	for i := range b {
		b[i] ^= 0xEE
	}
}

// scrawl writes into bits, and into the room behind them.
func scrawl(l []api.Bit) {
	l = l[:cap(l)]
	for i := range l {
		l[i] = api.Bit{At: -7, B: !l[i].B}
	}
}

func speech() []byte { return []byte("abcabcabc-abcabd-abcabcabc") }

func bits(t *testing.T, l []api.Token) []api.Bit {
	t.Helper()
	b, e := press.Bits(l)
	if e != api.OK {
		t.Fatalf("got %d", e)
	}
	return b
}

func unpack(t *testing.T, b []byte) []byte {
	t.Helper()
	text, e := press.Unpack(b, api.MaxText)
	if e != api.OK {
		t.Fatalf("got %d", e)
	}
	return text
}

// R2: Bits changes neither its tokens, nor what it answered, whoever writes into the tokens behind it, or into another answer.
func TestOwnBits(t *testing.T) {
	was := tokens(t, speech())
	l := slices.Clone(was)
	got, other := bits(t, l), bits(t, l)
	if !slices.Equal(l, was) {
		t.Errorf("%v was handed in", l)
	}
	clear(l[:cap(l)])
	scrawl(other)
	if !slices.Equal(got, told(was)) {
		t.Errorf("got %s", script(got))
	}
	scrawl(got)
	if got := bits(t, was); !slices.Equal(got, told(was)) {
		t.Errorf("got %s", script(got))
	}
}

// R2: Pack changes neither its text, nor what it answered; nor does Unpack.
func TestOwnTexts(t *testing.T) {
	want := packed(t, len(speech()), tokens(t, speech()))
	for _, c := range []struct {
		do       func(*testing.T, []byte) []byte
		in, want []byte
	}{{pack, speech(), want}, {unpack, want, speech()}} {
		b := bytes.Clone(c.in)
		got, other := c.do(t, b), c.do(t, b)
		if !bytes.Equal(b, c.in) {
			t.Errorf("%v was handed in", b)
		}
		scribble(b)
		scribble(other)
		if !bytes.Equal(got, c.want) {
			t.Errorf("got %v", got)
		}
		b = bytes.Clone(c.in)
		scribble(c.do(t, b))
		if !bytes.Equal(b, c.in) || !bytes.Equal(c.do(t, b), c.want) {
			t.Errorf("%v was handed in", b)
		}
	}
}

// R2: behind an error too what was handed in is as it was.
func TestOwnWrong(t *testing.T) {
	good := pack(t, speech())
	for _, was := range [][]byte{good[:len(good)-1], append(good, 7), append(four(99), good[4:]...), append(four(1<<17), good[4:]...), good[:8]} {
		b := bytes.Clone(was)
		press.Long(b)
		press.Unpack(b, -1)
		press.Unpack(b, 3)
		if _, e := press.Unpack(b, 99); e != api.ErrForm || !bytes.Equal(b, was) {
			t.Errorf("got %d, %v was handed in", e, b)
		}
	}
	l := append(tokens(t, speech()), again(3, 200))
	was := slices.Clone(l)
	if _, e := press.Bits(l); e != api.ErrArg || !slices.Equal(l, was) {
		t.Errorf("got %d, %v was handed in", e, l)
	}
	b := octets(1, api.MaxText+1, 3)
	if _, e := press.Pack(b); e != api.ErrLong || !bytes.Equal(b, octets(1, api.MaxText+1, 3)) {
		t.Errorf("got %d", e)
	}
}

// R2: room behind a list that is handed in is the caller's too: no call writes there, and what stands there is not of the list.
func TestRoomBehind(t *testing.T) {
	b, l := append(speech(), speech()...), append(tokens(t, speech()), tokens(t, speech())...)
	for n := range len(b) {
		p := packed(t, n, tokens(t, bytes.Clone(b[:n])))
		if got := pack(t, b[:n]); !bytes.Equal(got, p) {
			t.Errorf("%d: got %v", n, got)
		}
		room := append(bytes.Clone(p), 1, 2, 3)
		if got := unpack(t, room[:len(p)]); !bytes.Equal(got, b[:n]) || !bytes.Equal(room, append(p, 1, 2, 3)) {
			t.Errorf("%d: got %q, %v was handed in", n, got, room)
		}
		for k := range len(p) {
			if _, e := press.Unpack(p[:k], api.MaxText); e != api.ErrForm {
				t.Errorf("%d of %d: got %d", k, n, e)
			}
			if long, e := press.Long(p[:k]); k < 9 && (long != 0 || e != api.ErrForm) {
				t.Errorf("%d of %d: got %d, %d", k, n, long, e)
			}
		}
	}
	for n := range len(l) {
		if got := bits(t, l[:n]); !slices.Equal(got, told(slices.Clone(l[:n]))) {
			t.Errorf("%d: got %s", n, script(got))
		}
	}
	if !bytes.Equal(b, append(speech(), speech()...)) || !slices.Equal(l, append(tokens(t, speech()), tokens(t, speech())...)) {
		t.Errorf("%q, %v were handed in", b, l)
	}
}

// R3: no text, and an empty one, are the same; so are no tokens.
func TestNothing(t *testing.T) {
	for _, b := range [][]byte{nil, {}, speech()[:0]} {
		if p, e := press.Pack(b); !bytes.Equal(p, make([]byte, 9)) || e != api.OK {
			t.Errorf("got %v, %d", p, e)
		}
		if n, e := press.Long(b); n != 0 || e != api.ErrForm {
			t.Errorf("got %d, %d", n, e)
		}
		if text, e := press.Unpack(b, 0); len(text) != 0 || e != api.ErrForm {
			t.Errorf("got %v, %d", text, e)
		}
	}
	for _, l := range [][]api.Token{nil, {}, tokens(t, speech())[:0]} {
		if got, e := press.Bits(l); len(got) != 0 || e != api.OK {
			t.Errorf("got %v, %d", got, e)
		}
	}
	if text, e := press.Unpack(make([]byte, 9), 0); len(text) != 0 || e != api.OK {
		t.Errorf("got %v, %d", text, e)
	}
}

// R5: asked again, and behind calls that end with an error, each call answers the same; nothing is kept.
func TestAgain(t *testing.T) {
	want, l := packed(t, len(speech()), tokens(t, speech())), tokens(t, speech())
	for seed := range 30 {
		press.Pack(octets(seed, 300, 9))
		press.Pack(make([]byte, api.MaxText+1))
		press.Unpack(want[:len(want)-1], 99)
		press.Unpack(append(four(99), want[4:]...), 99)
		press.Unpack(want, 3)
		press.Bits([]api.Token{again(3, 1)})
		press.Long(nil)
		n, e := press.Long(want)
		if !bytes.Equal(pack(t, speech()), want) || !bytes.Equal(unpack(t, want), speech()) || !slices.Equal(bits(t, l), told(l)) || n != len(speech()) || e != api.OK {
			t.Fatalf("got another answer: %d, %d", n, e)
		}
	}
}
