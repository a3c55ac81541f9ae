package perm_test

import (
	"bytes"
	"testing"

	"tansy/api"
	"tansy/perm"
)

// P8.5: no two states have one Perm: what it is taken back to is the state, from either side.
func TestBackAndForth(t *testing.T) {
	for _, s := range states(7, 50000) {
		if got := perm.Back(perm.Perm(s)); got != s {
			t.Fatalf("%#x: got %#x", s, got)
		}
		if got := perm.Perm(perm.Back(s)); got != s {
			t.Fatalf("%#x: got %#x", s, got)
		}
	}
}

// P8.5: of many states that lie close to each other each has a Perm of its own.
func TestNoTwo(t *testing.T) {
	was := map[api.Words]api.Words{}
	for _, by := range []api.Words{{1}, {0, 1}, {0, 0, 1}, {0, 0, 0, 1}, {1 << 16}, {0, 1 << 16}, {0, 0, 1 << 16}, {0, 0, 0, 1 << 16}} {
		for i := range uint32(1 << 13) {
			s := api.Words{1 + by[0]*i, 1 + by[1]*i, 1 + by[2]*i, 1 + by[3]*i}
			p := perm.Perm(s)
			if other, ok := was[p]; ok && other != s {
				t.Fatalf("%#x and %#x: %#x", s, other, p)
			}
			was[p] = s
		}
	}
}

// takenBack is the state ahead of a text: each eight is taken out again, the last one first.
func takenBack(s api.Words, b []byte) api.Words {
	b = filled(b)
	for i := len(b) - 8; i >= 0; i -= 8 {
		s = perm.Back(s)
		for k, o := range b[i : i+8] {
			s[k/4] ^= uint32(o) << (k % 4 * 8)
		}
	}
	return s
}

// P8.5: no two states come to one by one text: from what it came to, the state is told by the text alone.
func TestTakenBack(t *testing.T) {
	for _, n := range []int{0, 1, 7, 8, 9, 15, 16, 17, 100, 1000} {
		b := octets(5, n)
		seen := map[api.Words]bool{}
		for _, s := range states(8, 200) {
			got, e := perm.Absorb(s, b)
			if e != api.OK || takenBack(got, b) != s {
				t.Fatalf("%#x, %d: got %#x, %d", s, n, got, e)
			}
			seen[got] = true
		}
		if want := len(distinct(states(8, 200))); len(seen) != want {
			t.Errorf("%d: got %d states from %d", n, len(seen), want)
		}
	}
}

// distinct are the states of a list, each once.
func distinct(l []api.Words) map[api.Words]bool {
	m := map[api.Words]bool{}
	for _, s := range l {
		m[s] = true
	}
	return m
}

// P8.5: fewer octets are the beginning of more, at all counts, and of the most.
func TestBeginning(t *testing.T) {
	for _, s := range few() {
		all, e := perm.Squeeze(s, api.MaxSqueeze)
		if e != api.OK || len(all) != api.MaxSqueeze {
			t.Fatalf("%#x: got %d octets, %d", s, len(all), e)
		}
		for n := 0; n <= api.MaxSqueeze; n += 1 + n/40 {
			if got, e := perm.Squeeze(s, n); !bytes.Equal(got, all[:n]) || e != api.OK {
				t.Fatalf("%#x, %d: got %d octets, %d", s, n, len(got), e)
			}
		}
	}
}

// P8.2, P8.5: texts that are told apart by what fills up come to states of their own.
func TestTextsToldApart(t *testing.T) {
	for _, s := range few() {
		was := map[api.Words][]byte{}
		for n := range 40 {
			for _, b := range [][]byte{make([]byte, n), append(make([]byte, n), 128), append([]byte("tansy"), make([]byte, n)...)} {
				got, e := perm.Absorb(s, b)
				if other, ok := was[got]; e != api.OK || ok && !bytes.Equal(b, other) {
					t.Errorf("%#x: %v and %v: %#x, %d", s, b, other, got, e)
				}
				was[got] = b
			}
		}
	}
}
