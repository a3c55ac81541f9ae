package derive_test

import (
	"bytes"
	"math"
	"testing"

	"tansy/api"
	"tansy/derive"
)

// R2: words, and salts, that are handed in are as they were, and so is the room ahead of them, and behind them.
func TestOwnTexts(t *testing.T) {
	all := octets(10, 160)
	was := bytes.Clone(all)
	for n := range api.MaxPass + 3 {
		for from := range 9 {
			word, salt := all[from:from+n], all[from+n:from+n+n/2]
			derive.Start(word, salt)
			derive.Start(salt, word)
			derive.Go(most, word, 3)
			derive.Go(most, word, -1)
			derive.Key(word, salt, 3)
			derive.Key(word, word, 0)
			if !bytes.Equal(all, was) {
				t.Fatalf("%d from %d: %v was handed in", n, from, all)
			}
		}
	}
}

// R2: states, and keys, that are handed in stay as they are, whatever is done with them.
func TestOwnStates(t *testing.T) {
	for _, s := range states() {
		was := s
		derive.Go(s, []byte("tansy"), 0)
		derive.Go(s, []byte("tansy"), 5)
		derive.Go(s, nil, api.MaxRounds+1)
		derive.Mark(s)
		if s != was {
			t.Errorf("got %#x, want %#x", s, was)
		}
	}
}

// R2: what is answered does not change when somebody writes into what was handed in; the same text may be both.
func TestOwnInputs(t *testing.T) {
	for _, text := range words() {
		b := bytes.Clone(text)
		start, e := derive.Start(b, b)
		state, f := derive.Go(most, b, 3)
		key, g := derive.Key(b, b, 3)
		for i := range b {
			b[i] ^= 0xEE
		}
		want := taken(t, api.Words{}, text, text)
		if start != want || state != gone(t, most, text, 3) || key != gone(t, want, text, 3) || e != api.OK || f != api.OK || g != api.OK {
			t.Errorf("%v: got %#x, %#x, %#x, %d, %d, %d", text, start, state, key, e, f, g)
		}
	}
}

// R3: no octets, and an empty list of them, are the same.
func TestNothing(t *testing.T) {
	none := [][]byte{nil, {}, octets(11, 9)[:0], octets(11, 9)[9:]}
	for _, word := range none {
		if got, e := derive.Go(most, word, 3); got != gone(t, most, nil, 3) || e != api.OK {
			t.Errorf("got %#x, %d", got, e)
		}
		for _, salt := range none {
			want := taken(t, api.Words{}, nil, nil)
			if got, e := derive.Start(word, salt); got != want || e != api.OK {
				t.Errorf("got %#x, %d, want %#x", got, e, want)
			}
			if got, e := derive.Key(word, salt, 1); got != taken(t, want, nil) || e != api.OK {
				t.Errorf("got %#x, %d", got, e)
			}
		}
	}
}

// R1, R5: asked again, and behind calls that end with an error, each call answers the same; nothing is kept.
func TestAgain(t *testing.T) {
	s, word, salt := api.Words{9, 8, 7, 6}, octets(12, 50), octets(13, 20)
	start := taken(t, api.Words{}, salt, word)
	mark := derive.Mark(s)
	for range 3 {
		derive.Start(word, make([]byte, api.MaxPass+1))
		derive.Start(make([]byte, api.MaxPass+1), salt)
		derive.Go(s, word, -1)
		derive.Go(s, make([]byte, api.MaxPass+1), 1)
		derive.Key(word, salt, 0)
		derive.Key(word, salt, math.MaxInt)
		derive.Mark(most)
		got, e := derive.Start(word, salt)
		if got != start || e != api.OK {
			t.Errorf("got %#x, %d, want %#x", got, e, start)
		}
		got, e = derive.Go(s, word, 6)
		if got != gone(t, s, word, 6) || e != api.OK {
			t.Errorf("got %#x, %d", got, e)
		}
		got, e = derive.Key(word, salt, 6)
		if got != gone(t, start, word, 6) || e != api.OK {
			t.Errorf("got %#x, %d", got, e)
		}
		if got := derive.Mark(s); got != mark {
			t.Errorf("got %#x, want %#x", got, mark)
		}
	}
}
