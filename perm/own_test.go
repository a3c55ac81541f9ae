package perm_test

import (
	"bytes"
	"testing"

	"tansy/api"
	"tansy/perm"
)

// scribble writes into a list, and into the room behind it.
func scribble(b []byte) {
	b = b[:cap(b)]
	for i := range b {
		b[i] ^= 0xEE
	}
}

// R2: a state that is handed in stays as it is, whatever is done with it.
func TestOwnState(t *testing.T) {
	for _, s := range few() {
		was := s
		perm.Perm(s)
		perm.Back(s)
		perm.Absorb(s, []byte("tansy"))
		perm.Squeeze(s, 30)
		perm.Octets(s)
		if s != was {
			t.Errorf("got %#x, want %#x", s, was)
		}
	}
}

// R2: a text that is taken in is as it was, and so is the room behind it, where it is filled up elsewhere.
func TestOwnAbsorb(t *testing.T) {
	all := octets(10, 64)
	was := bytes.Clone(all)
	for n := range 41 {
		for from := range 9 {
			got, e := perm.Absorb(api.Words{5, 6}, all[from:from+n])
			if want := absorbed(api.Words{5, 6}, was[from:from+n]); got != want || e != api.OK {
				t.Errorf("%d from %d: got %#x, %d, want %#x", n, from, got, e, want)
			}
			if !bytes.Equal(all, was) {
				t.Fatalf("%d from %d: %v was handed in", n, from, all)
			}
		}
	}
	long := octets(11, api.MaxSqueeze+1)
	perm.Absorb(api.Words{}, long)
	perm.Absorb(api.Words{}, long[:api.MaxSqueeze])
	if !bytes.Equal(long, octets(11, api.MaxSqueeze+1)) {
		t.Errorf("what was handed in is another one")
	}
}

// R2: Of changes nothing that it is handed, and reads nothing behind it.
func TestOwnOf(t *testing.T) {
	all := octets(12, 40)
	was := bytes.Clone(all)
	for n := range 25 {
		for from := range 9 {
			if _, e := perm.Of(all[from : from+n]); (e == api.OK) != (n == 16) || !bytes.Equal(all, was) {
				t.Fatalf("%d from %d: got %d, %v was handed in", n, from, e, all)
			}
		}
	}
	b := octets(12, 16)
	s, _ := perm.Of(b)
	scribble(b)
	if got := perm.Octets(s); !bytes.Equal(got, octets(12, 16)) {
		t.Errorf("got %v behind a scribble into what was handed in", got)
	}
}

// lists are all calls that answer octets of a state.
func lists() map[string]func(api.Words) []byte {
	l := map[string]func(api.Words) []byte{"Octets": perm.Octets}
	for what, n := range map[string]int{"none": 0, "1": 1, "8": 8, "9": 9, "40": 40, "most": api.MaxSqueeze} {
		l["Squeeze "+what] = func(s api.Words) []byte {
			b, _ := perm.Squeeze(s, n)
			return b
		}
	}
	return l
}

// R2: each answer is the caller's own, whoever writes into another one.
func TestOwnAnswers(t *testing.T) {
	for what, call := range lists() {
		for _, s := range few() {
			got := call(s)
			want := bytes.Clone(got)
			call(api.Words{11, 12, 13, 14})
			if !bytes.Equal(got, want) {
				t.Errorf("%s, %#x: got another answer behind another state's", what, s)
			}
			scribble(call(s))
			if !bytes.Equal(got, want) {
				t.Errorf("%s, %#x: got another answer behind a scribble into another one", what, s)
			}
			scribble(got)
			if again := call(s); !bytes.Equal(again, want) {
				t.Errorf("%s, %#x: got another answer behind a scribble into it", what, s)
			}
		}
	}
}

// R3: no octets, and an empty list of them, are the same.
func TestNothing(t *testing.T) {
	for _, b := range [][]byte{nil, {}, octets(13, 9)[:0]} {
		if got, e := perm.Absorb(api.Words{7}, b); got != absorbed(api.Words{7}, nil) || e != api.OK {
			t.Errorf("got %#x, %d", got, e)
		}
		if got, e := perm.Of(b); got != (api.Words{}) || e != api.ErrForm {
			t.Errorf("got %#x, %d", got, e)
		}
	}
}

// R1, R5: asked again, and behind calls that end with an error, each call answers the same; nothing is kept.
func TestAgain(t *testing.T) {
	s, b := api.Words{9, 8, 7, 6}, octets(14, 50)
	for range 3 {
		perm.Absorb(s, make([]byte, api.MaxSqueeze+1))
		perm.Squeeze(s, -1)
		perm.Squeeze(s, api.MaxSqueeze+1)
		perm.Of(b)
		perm.Perm(api.Words{1})
		perm.Back(api.Words{1})
		in, e := perm.Absorb(s, b)
		out, f := perm.Squeeze(s, 50)
		of, g := perm.Of(b[:16])
		if perm.Perm(s) != permuted(s) || permuted(perm.Back(s)) != s || in != absorbed(s, b) || e != api.OK {
			t.Errorf("got another state: %#x, %d", in, e)
		}
		if !bytes.Equal(out, squeezed(s, 50)) || f != api.OK || !bytes.Equal(perm.Octets(of), b[:16]) || g != api.OK {
			t.Errorf("got another answer: %v, %d, %#x, %d", out, f, of, g)
		}
	}
}
