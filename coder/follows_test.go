package coder_test

import (
	"bytes"
	"slices"
	"testing"

	"tansy/api"
	"tansy/coder"
)

// tryBack: bits that are encoded are read, by the same places, and all of their text, which is no longer than it may be; without its last octet they are not.
func tryBack(t *testing.T, n int, l []api.Bit) {
	t.Helper()
	b := encode(t, n, l)
	if most := 5 + 7*((len(l)+7)/8); len(b) < 5 || len(b) > most || b[0] != 0 {
		t.Fatalf("%d, %d bits: got %d octets, at most %d", n, len(l), len(b), most)
	}
	got, used, e := coder.Decode(n, b, places(l))
	if !slices.Equal(got, values(l)) || used != len(b) || e != api.OK {
		t.Fatalf("%d, %d bits: got %d bits, %d of %d octets, %d", n, len(l), len(got), used, len(b), e)
	}
	if got, used, e := coder.Decode(n, b[:len(b)-1], places(l)); len(got) != 0 || used != 0 || e != api.ErrForm {
		t.Fatalf("%d, %d bits, without the last octet: got %d bits, %d, %d", n, len(l), len(got), used, e)
	}
	for _, more := range [][]byte{{0}, {255}, {255, 255, 255, 255, 255}, octets(1, 30)} {
		got, used, e := coder.Decode(n, slices.Concat(b, more), places(l))
		if !slices.Equal(got, values(l)) || used != len(b) || e != api.OK {
			t.Fatalf("%d, %d bits, with octets behind: got %d bits, %d of %d octets, %d", n, len(l), len(got), used, len(b), e)
		}
	}
}

// P6.4: what is encoded is read: all lists of few bits.
func TestBackOfFew(t *testing.T) {
	for _, c := range []struct{ n, most int }{{1, 12}, {2, 6}, {3, 4}} {
		few(c.n, c.most, func(l []api.Bit) { tryBack(t, c.n, l) })
	}
}

// P6.4: so it is by chance, of few chances and of many, up to MaxPlaces and MaxBits.
func TestBackChance(t *testing.T) {
	for seed, n := range []int{0, 1, 2, 3, 16, 256, 528, 1023, 1024} {
		tryBack(t, n, nil)
		for _, k := range []int{1, 7, 8, 9, 16, 17, 64, 65, 500, 4000} {
			for set := 0; set < 11 && n > 0; set++ {
				tryBack(t, n, bits(seed, k, n, set))
			}
		}
	}
	tryBack(t, 1, bits(20, api.MaxBits, 1, 5))
	tryBack(t, 1024, bits(21, api.MaxBits, 1024, 1))
}

// P6.4: so it is with all ways in which a carry goes through octets 255: bits that are read just beside what was written are other ones.
func TestBackCarry(t *testing.T) {
	carried := 0
	for seed := range 3000 {
		l := bits(seed, 60, 2, 1+seed%9)
		for k := range l {
			ahead, b := encode(t, 2, l[:k]), encode(t, 2, l[:k+1])
			if l[k].B && !bytes.Equal(b[:len(ahead)-4], ahead[:len(ahead)-4]) {
				carried++
				tryBack(t, 2, l[:k+1])
			}
		}
	}
	if carried < 500 {
		t.Errorf("just %d were carried", carried)
	}
}

// P6.4: bits that each come against their chances have the longest texts, and those are short enough: of chances that learned just the other bit, and of those that learn as they go.
func TestLongest(t *testing.T) {
	var l []api.Bit
	for _, b := range []bool{false, true} {
		for at := range 200 {
			for range 300 {
				l = append(l, api.Bit{At: at, B: b})
			}
		}
		ahead := len(encode(t, 200, l))
		for at := range 200 {
			l = append(l, api.Bit{At: at, B: !b})
		}
		if more := len(encode(t, 200, l)) - ahead; more < 140 || more > 175 {
			t.Errorf("%v: 200 bits have %d octets more", b, more)
		}
		tryBack(t, 200, l)
	}
	p := even(3)
	l = nil
	for i := range 5000 {
		b := api.Bit{At: i % 3, B: p[i%3] >= 1024}
		if b.B {
			p[b.At] -= p[b.At] / 32
		} else {
			p[b.At] += (2048 - p[b.At]) / 32
		}
		l = append(l, b)
	}
	tryBack(t, 3, l)
}

// P6.4: bits that all are as they were have short texts: the chances learn.
func TestShort(t *testing.T) {
	for _, b := range []bool{false, true} {
		l := slices.Repeat([]api.Bit{{B: b}}, 8000)
		if got := len(encode(t, 1, l)); got > 40 {
			t.Errorf("%v: got %d octets", b, got)
		}
		tryBack(t, 1, l)
	}
}

// P6.4: whatever octets a text has, the bits that are read of it are encoded to as many octets as were read, which are no greater a number, and are read alike.
func TestReadAndBack(t *testing.T) {
	for seed := range 2000 {
		n := 1 + seed%4
		b, at := octets(seed, 60), places(bits(seed, 100, n, 5))
		got, used, e := coder.Decode(n, b, at)
		if e != api.OK {
			t.Fatalf("%d: got %d", seed, e)
		}
		l := make([]api.Bit, len(at))
		for i := range l {
			l[i] = api.Bit{At: at[i], B: got[i]}
		}
		text := encode(t, n, l)
		if len(text) != used || bytes.Compare(text, b[:used]) > 0 {
			t.Errorf("%d: got %v, used %v", seed, text, b[:used])
		}
		again, _, e := coder.Decode(n, text, at)
		if !slices.Equal(again, got) || e != api.OK {
			t.Errorf("%d: got %v, %d, want %v", seed, again, e, got)
		}
	}
}
