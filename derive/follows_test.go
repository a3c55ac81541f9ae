package derive_test

import (
	"testing"

	"tansy/api"
	"tansy/derive"
	"tansy/perm"
)

// P10.4: rounds in two goes are rounds in one, wherever they are parted.
func TestTwoGoes(t *testing.T) {
	for _, s := range []api.Words{{}, {1, 2, 3, 4}, most} {
		for _, word := range [][]byte{nil, []byte("tansy"), zeros(), counted()} {
			for _, rounds := range []int{0, 1, 2, 9, 200, api.MaxRounds - 1, api.MaxRounds} {
				one, e := derive.Go(s, word, rounds)
				if e != api.OK {
					t.Fatalf("%#x, %v, %d: got %d", s, word, rounds, e)
				}
				for first := 0; first <= rounds; first += 1 + rounds/7 {
					half, f := derive.Go(s, word, first)
					two, g := derive.Go(half, word, rounds-first)
					if two != one || f != api.OK || g != api.OK {
						t.Errorf("%#x, %v, %d and %d: got %#x, %d, %d, want %#x", s, word, first, rounds-first, two, f, g, one)
					}
				}
			}
		}
	}
}

// P10.4: two goes have more rounds than one has at the most, and a key goes on where it ended.
func TestGoesOn(t *testing.T) {
	word, salt := []byte("tansy"), []byte("salt")
	s, e := derive.Start(word, salt)
	key, f := derive.Key(word, salt, 500)
	if e != api.OK || f != api.OK {
		t.Fatalf("got %d, %d", e, f)
	}
	for _, rounds := range []int{0, 1, 500, api.MaxRounds} {
		got, e := derive.Go(key, word, rounds)
		if want := gone(t, s, word, 500+rounds); got != want || e != api.OK {
			t.Errorf("%d: got %#x, %d, want %#x", rounds, got, e, want)
		}
	}
}

// P10.1, P10.2, P10.3: a key is Go of what it starts with.
func TestKeyIsGoOfStart(t *testing.T) {
	for _, word := range words() {
		for _, salt := range words() {
			s, e := derive.Start(word, salt)
			want, f := derive.Go(s, word, 4)
			got, g := derive.Key(word, salt, 4)
			if got != want || e != api.OK || f != api.OK || g != api.OK {
				t.Fatalf("%v, %v: got %#x, want %#x, %d, %d, %d", word, salt, got, want, e, f, g)
			}
		}
	}
}

// ahead is the state from which one comes to s by a word: each eight is taken out again, the last one first.
func ahead(s api.Words, word []byte) api.Words {
	b := append(append([]byte(nil), word...), 128)
	for len(b)%8 != 0 {
		b = append(b, 0)
	}
	for i := len(b) - 8; i >= 0; i -= 8 {
		s = perm.Back(s)
		for k, o := range b[i : i+8] {
			s[k/4] ^= uint32(o) << (k % 4 * 8)
		}
	}
	return s
}

// P10.4: no two states come to one by one word: what it came from is told by the word, and how many rounds there were.
func TestNoTwoStates(t *testing.T) {
	all := map[api.Words]bool{}
	for _, s := range states() {
		all[s] = true
	}
	for _, word := range words() {
		for _, rounds := range []int{0, 1, 2, 20} {
			seen := map[api.Words]bool{}
			for s := range all {
				got, e := derive.Go(s, word, rounds)
				seen[got] = true
				from := got
				for range rounds {
					from = ahead(from, word)
				}
				if from != s || e != api.OK {
					t.Fatalf("%#x, %v, %d: got %#x, %d, from %#x", s, word, rounds, got, e, from)
				}
			}
			if len(seen) != len(all) {
				t.Errorf("%v, %d: got %d states from %d", word, rounds, len(seen), len(all))
			}
		}
	}
}

// P10.1, P10.4: words, and salts, that are told apart just by where one ends and the other begins, or by zeros, start apart.
func TestToldApart(t *testing.T) {
	was := map[api.Words][2]string{}
	for n := range 13 {
		text := "tansy\x00\x00\x80\x00\x00\x00\x00"
		for _, c := range [][2]string{{text[:n], text[n:]}, {text[n:], "tansy"}, {"tansy", text[n:]}, {text[:n], ""}, {"", text[:n]}} {
			s, e := derive.Start([]byte(c[0]), []byte(c[1]))
			if other, ok := was[s]; e != api.OK || ok && other != c {
				t.Errorf("%q and %q: %#x, %d", c, other, s, e)
			}
			was[s] = c
		}
	}
}
