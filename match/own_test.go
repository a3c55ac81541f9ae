package match_test

import (
	"bytes"
	"slices"
	"testing"

	"tansy/api"
	"tansy/match"
)

// scribble writes into a text, and into the room behind it.
func scribble(b []byte) {
	b = b[:cap(b)]
	for i := range b {
		b[i] ^= 0xEE
	}
}

// scrawl writes into tokens, and into the room behind them.
func scrawl(l []api.Token) {
	l = l[:cap(l)]
	for i := range l {
		l[i] = api.Token{Lit: 99, Len: -7, Dist: -7}
	}
}

func script() []byte { return []byte("abcabcabc-abcabd-abcabcabc") }

func tokens(t *testing.T, b []byte) []api.Token {
	t.Helper()
	l, e := match.Tokens(b)
	if e != api.OK {
		t.Fatalf("got %d", e)
	}
	return l
}

func text(t *testing.T, l []api.Token) []byte {
	t.Helper()
	b, e := match.Text(l, api.MaxText)
	if e != api.OK {
		t.Fatalf("got %d", e)
	}
	return b
}

// R2: Tokens changes neither its text, nor what it answered, whoever writes into the text behind it, or into another answer.
func TestOwnTokens(t *testing.T) {
	b := script()
	got, other := tokens(t, b), tokens(t, b)
	if !bytes.Equal(b, script()) {
		t.Errorf("%q was handed in", b)
	}
	want := slices.Clone(got)
	scribble(b)
	scrawl(other)
	if !slices.Equal(got, want) {
		t.Errorf("got %v, want %v", got, want)
	}
	b = script()
	scrawl(tokens(t, b))
	if !bytes.Equal(b, script()) || !slices.Equal(tokens(t, b), want) {
		t.Errorf("%q was handed in", b)
	}
}

// R2: Text changes neither its tokens, nor what it answered, whoever writes into the tokens behind it, or into another answer.
func TestOwnText(t *testing.T) {
	l := tokens(t, script())
	was := slices.Clone(l)
	got, other := text(t, l), text(t, l)
	if !slices.Equal(l, was) {
		t.Errorf("%v was handed in", l)
	}
	scrawl(l)
	scribble(other)
	if !bytes.Equal(got, script()) {
		t.Errorf("got %q", got)
	}
	l = slices.Clone(was)
	scribble(text(t, l))
	if !slices.Equal(l, was) || !bytes.Equal(text(t, l), script()) {
		t.Errorf("%v was handed in", l)
	}
}

// R2: room behind a list that is handed in is the caller's too: no call writes there, and what stands there is not of the list.
func TestRoomBehind(t *testing.T) {
	b := append(script(), script()...)
	l := append(tokens(t, script()), tokens(t, script())...)
	for n := range len(l) {
		part := slices.Clone(l[:n])
		if e, f := match.Check(l[:n]), match.Check(part); e != f {
			t.Errorf("%d: got %d, want %d", n, e, f)
		}
		got, _ := match.Text(l[:n], 99)
		if want, _ := match.Text(part, 99); !bytes.Equal(got, want) {
			t.Errorf("%d: got %q, want %q", n, got, want)
		}
	}
	for n := range len(b) {
		part := bytes.Clone(b[:n])
		if got, want := tokens(t, b[:n]), tokens(t, part); !slices.Equal(got, want) {
			t.Errorf("%d: got %v, want %v", n, got, want)
		}
		for at := range n {
			got, _ := match.Find(b[:n], at)
			if want, _ := match.Find(part, at); got != want {
				t.Errorf("%d of %d: got %v, want %v", at, n, got, want)
			}
		}
	}
	if !bytes.Equal(b, append(script(), script()...)) || !slices.Equal(l, append(tokens(t, script()), tokens(t, script())...)) {
		t.Errorf("%q, %v were handed in", b, l)
	}
}

// R3: no text, and an empty one, are the same; so are no tokens.
func TestNothing(t *testing.T) {
	for _, b := range [][]byte{nil, {}} {
		if l, e := match.Tokens(b); len(l) != 0 || e != api.OK {
			t.Errorf("got %v, %d", l, e)
		}
		if one, e := match.Find(b, 0); one != (api.Token{}) || e != api.ErrArg {
			t.Errorf("got %v, %d", one, e)
		}
	}
	for _, l := range [][]api.Token{nil, {}} {
		b, e := match.Text(l, 0)
		n, f := match.Long(l)
		if len(b) != 0 || e != api.OK || n != 0 || f != api.OK || match.Check(l) != api.OK {
			t.Errorf("got %q, %d, %d, %d", b, e, n, f)
		}
	}
}

// R1, R5: asked again, and behind calls that end with an error, each call answers the same; nothing is kept.
func TestAgain(t *testing.T) {
	b := script()
	l := tokens(t, b)
	one, e := match.Find(b, 3)
	for range 3 {
		match.Tokens(make([]byte, api.MaxText+1))
		match.Find(b, -1)
		match.Text(l, -1)
		match.Text(l, 2)
		match.Long([]api.Token{again(3, 1)})
		other, f := match.Find(b, 3)
		if other != one || f != e || !slices.Equal(tokens(t, b), l) || !bytes.Equal(text(t, l), b) {
			t.Errorf("got another answer: %v, %d", other, f)
		}
	}
}
