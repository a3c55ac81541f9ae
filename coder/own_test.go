package coder_test

import (
	"bytes"
	"slices"
	"testing"

	"tansy/api"
	"tansy/coder"
)

// scribble writes into a text, and into the room behind it.
func scribble(b []byte) {
	b = b[:cap(b)]
	for i := range b {
		b[i] ^= 0xEE
	}
}

// scrawl writes into bits, and into the room behind them.
func scrawl(l []api.Bit) {
	l = l[:cap(l)]
	for i := range l {
		l[i] = api.Bit{At: -7, B: !l[i].B}
	}
}

// R2: Encode changes neither its bits, nor what it answered, whoever writes into the bits behind it, or into another answer.
func TestOwnEncode(t *testing.T) {
	for _, k := range []int{0, 1, 9, 500} {
		was := bits(1, k, 4, 4)
		l := slices.Clone(was)
		got, other := encode(t, 4, l), encode(t, 4, l)
		if !slices.Equal(l, was) {
			t.Errorf("%d: %v was handed in", k, l)
		}
		scrawl(l)
		scribble(other)
		if !bytes.Equal(got, great(4, was)) {
			t.Errorf("%d: got %v", k, got)
		}
		scribble(got)
		if got := encode(t, 4, was); !bytes.Equal(got, great(4, was)) {
			t.Errorf("%d: got %v", k, got)
		}
	}
}

// R2: Decode changes neither its text, nor its places, nor what it answered.
func TestOwnDecode(t *testing.T) {
	l := bits(2, 500, 4, 4)
	b, at := encode(t, 4, l), places(l)
	got, _, _ := coder.Decode(4, b, at)
	other, _, _ := coder.Decode(4, b, at)
	if !bytes.Equal(b, great(4, l)) || !slices.Equal(at, places(l)) {
		t.Errorf("%v, %v were handed in", b, at)
	}
	scribble(b)
	clear(at)
	clear(other[:cap(other)])
	if !slices.Equal(got, values(l)) {
		t.Errorf("got %v", got)
	}
	clear(got[:cap(got)])
	if got, _, _ := coder.Decode(4, great(4, l), places(l)); !slices.Equal(got, values(l)) {
		t.Errorf("got %v", got)
	}
}

// R2: a reader keeps a text of its own: whoever writes into that which was handed in does not reach it, nor does it write there.
func TestOwnReader(t *testing.T) {
	l := bits(3, 500, 4, 4)
	b := encode(t, 4, l)
	r, other := reader(t, 4, b), reader(t, 4, b)
	for _, bit := range l[:100] {
		r.Next(bit.At)
	}
	if !bytes.Equal(b, great(4, l)) {
		t.Errorf("%v was handed in", b)
	}
	scribble(b)
	for i, bit := range l[100:] {
		if got, e := r.Next(bit.At); got != bit.B || e != api.OK {
			t.Fatalf("bit %d: got %v, %d", 100+i, got, e)
		}
	}
	for i, bit := range l {
		if got, e := other.Next(bit.At); got != bit.B || e != api.OK {
			t.Fatalf("bit %d, of the other one: got %v, %d", i, got, e)
		}
	}
	if r.Used() != len(b) || other.Used() != len(b) {
		t.Errorf("%d, %d used, want %d", r.Used(), other.Used(), len(b))
	}
}

// R2: behind an error too what was handed in is as it was.
func TestOwnWrong(t *testing.T) {
	was := append(bits(4, 40, 3, 5), api.Bit{At: 3, B: true})
	l := slices.Clone(was)
	if _, e := coder.Encode(3, l); e != api.ErrNone || !slices.Equal(l, was) {
		t.Errorf("got %d, %v was handed in", e, l)
	}
	text := octets(4, 6)
	b, at := bytes.Clone(text), slices.Repeat([]int{2, 1, 0}, 90)
	if _, _, e := coder.Decode(3, b, at); e != api.ErrForm || !bytes.Equal(b, text) || !slices.Equal(at, slices.Repeat([]int{2, 1, 0}, 90)) {
		t.Errorf("got %d, %v, %v were handed in", e, b, at)
	}
	b[0] = 1
	if _, e := coder.NewReader(3, b); e != api.ErrForm || b[0] != 1 || !bytes.Equal(b[1:], text[1:]) {
		t.Errorf("got %d, %v was handed in", e, b)
	}
}

// R2: room behind a list that is handed in is the caller's too: no call writes there, and what stands there is not of the list.
func TestRoomBehind(t *testing.T) {
	l := append(bits(5, 60, 3, 4), api.Bit{At: -1}, api.Bit{At: 3})
	was := slices.Clone(l)
	for k := range 60 {
		got := encode(t, 3, l[:k])
		if want := great(3, was[:k]); !bytes.Equal(got, want) {
			t.Fatalf("%d: got %v, want %v", k, got, want)
		}
		long := len(got)
		room := append(got, 1, 2, 3)
		bit, used, e := coder.Decode(3, room[:long], append(places(was[:k]), 0)[:k])
		if !slices.Equal(bit, values(was[:k])) || used != long || e != api.OK {
			t.Fatalf("%d: got %v, %d, %d", k, bit, used, e)
		}
		tryReader(t, 3, room[:long], 900)
		if !slices.Equal(l, was) || !bytes.Equal(room[long:], []byte{1, 2, 3}) {
			t.Fatalf("%d: %v, %v were handed in", k, l, room)
		}
	}
}

// R3: no bits, and an empty list of them, are the same; so are no places, and no text.
func TestNothing(t *testing.T) {
	for _, l := range [][]api.Bit{nil, {}, bits(6, 4, 4, 5)[:0]} {
		if b, e := coder.Encode(4, l); !bytes.Equal(b, make([]byte, 5)) || e != api.OK {
			t.Errorf("got %v, %d", b, e)
		}
	}
	for _, at := range [][]int{nil, {}, {-1}} {
		if l, used, e := coder.Decode(4, make([]byte, 9), at[:0]); len(l) != 0 || used != 5 || e != api.OK {
			t.Errorf("got %v, %d, %d", l, used, e)
		}
	}
	for _, b := range [][]byte{nil, {}, make([]byte, 9)[:0]} {
		if r, e := coder.NewReader(4, b); r != nil || e != api.ErrForm {
			t.Errorf("got %v, %d", r, e)
		}
		if l, used, e := coder.Decode(4, b, nil); len(l) != 0 || used != 0 || e != api.ErrForm {
			t.Errorf("got %v, %d, %d", l, used, e)
		}
	}
}

// R5: readers read each its own, whatever others do in between; and asked again, behind calls that end with an error too, each call answers the same.
func TestAgain(t *testing.T) {
	one, two := bits(7, 300, 3, 2), bits(8, 300, 3, 8)
	b, c := encode(t, 3, one), encode(t, 3, two)
	r, s, same := reader(t, 3, b), reader(t, 3, c), reader(t, 3, b)
	for i := range one {
		coder.Encode(3, two[:i])
		coder.Decode(3, c, places(two[:i]))
		coder.Encode(-1, two)
		coder.NewReader(3, nil)
		same.Next(-1)
		got, e := r.Next(one[i].At)
		other, f := s.Next(two[i].At)
		again, g := same.Next(one[i].At)
		if got != one[i].B || other != two[i].B || again != got || e != api.OK || f != api.OK || g != api.OK {
			t.Fatalf("bit %d: got %v, %v, %v, %d, %d, %d", i, got, other, again, e, f, g)
		}
	}
	if !bytes.Equal(encode(t, 3, one), b) || !bytes.Equal(encode(t, 3, two), c) {
		t.Errorf("got another answer")
	}
}
