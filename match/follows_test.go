package match_test

import (
	"bytes"
	"testing"

	"tansy/api"
	"tansy/match"
)

// texts are some of each kind: short ones of few octets, words again and again, by chance, and the longest ones.
func texts() [][]byte {
	l := [][]byte{
		nil, {}, {0}, {255}, []byte("tansy"), []byte("123456789"),
		bytes.Repeat([]byte("a//b/./c/../d "), 90),
		[]byte("The quick brown fox jumps over the lazy dog, and over the lazy fox jumps the quick brown dog."),
		make([]byte, api.MaxText), octets(1, api.MaxText, 256), octets(2, api.MaxText, 2), octets(3, api.MaxText-1, 12),
		distinct(api.MaxText), bytes.Repeat(octets(4, 64, 256), api.MaxText/64),
	}
	for n := range 80 {
		l = append(l, make([]byte, n), octets(5, n, 1+n%7), bytes.Repeat(octets(6, 1+n%30, 256), 9))
	}
	for _, period := range []int{255, 256, 257, 258, 300} {
		l = append(l, bytes.Repeat(octets(7, period, 256), 4), bytes.Repeat(distinct(period), 4))
	}
	return l
}

// P4.4: a text's tokens may be, tell the text, and are no more than its octets.
func TestTokensTell(t *testing.T) {
	for i, b := range texts() {
		l, e := match.Tokens(b)
		if e != api.OK || match.Check(l) != api.OK || len(l) > len(b) {
			t.Errorf("text %d: got %d tokens of %d octets, %d, %d", i, len(l), len(b), e, match.Check(l))
		}
		if n, e := match.Long(l); n != len(b) || e != api.OK {
			t.Errorf("text %d: got %d, %d, want %d", i, n, e, len(b))
		}
		if got, e := match.Text(l, len(b)); !bytes.Equal(got, b) || e != api.OK {
			t.Errorf("text %d: got %d octets, %d, want %d", i, len(got), e, len(b))
		}
	}
}

// P4.4: so it is with all short texts of three octets.
func TestTokensTellAllOfFew(t *testing.T) {
	n := 1
	for long := range 10 {
		for x := range n {
			b := make([]byte, long)
			for i := range b {
				b[i], x = byte(x%3), x/3
			}
			l, e := match.Tokens(b)
			got, f := match.Text(l, long)
			if e != api.OK || f != api.OK || len(l) > long || !mayBe(l) || !bytes.Equal(got, b) {
				t.Fatalf("%v: got %v, %d, %v, %d", b, l, e, got, f)
			}
		}
		n *= 3
	}
}

// P4.4: what other tokens tell is told by its own ones too, though they be other ones.
func TestTellAndTell(t *testing.T) {
	for i, c := range good() {
		if c.n > api.MaxText {
			continue
		}
		b, e := match.Text(c.l, c.n)
		if e != api.OK {
			t.Fatalf("%d: got %d", i, e)
		}
		l, e := match.Tokens(b)
		got, f := match.Text(l, c.n)
		if !bytes.Equal(got, b) || e != api.OK || f != api.OK {
			t.Errorf("%d: got %v, %d, %d, want %v", i, got, e, f, b)
		}
	}
}
