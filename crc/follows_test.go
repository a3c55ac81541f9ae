package crc_test

import (
	"bytes"
	"testing"

	"tansy/api"
	"tansy/crc"
)

// P3.1: stepped by one text, and then by another, a register is as stepped by both, one behind the other.
func TestStepInParts(t *testing.T) {
	b := octets(11, 90)
	for _, r := range registers() {
		want := crc.Step(r, b)
		for i := range len(b) + 1 {
			if got := crc.Step(crc.Step(r, b[:i]), b[i:]); got != want {
				t.Fatalf("%#x, %d: got %#x, want %#x", r, i, got, want)
			}
		}
	}
}

// P3.2: two texts' sums joined are the sum of both, wherever a text is cut in two.
func TestJoinIsSum(t *testing.T) {
	for _, b := range texts() {
		want := crc.Sum(b)
		for i := 0; i <= len(b); i += 1 + len(b)/70 {
			if len(b)-i > api.MaxText {
				continue
			}
			got, e := crc.Join(crc.Sum(b[:i]), crc.Sum(b[i:]), len(b)-i)
			if got != want || e != api.OK {
				t.Fatalf("%d of %d: got %#x, %d, want %#x", i, len(b), got, e, want)
			}
		}
	}
}

// P3.2: three texts may be joined from either end.
func TestJoinThree(t *testing.T) {
	join := func(a, b uint32, n int) uint32 {
		s, e := crc.Join(a, b, n)
		if e != api.OK {
			t.Fatalf("%d: got %d", n, e)
		}
		return s
	}
	for i := range 40 {
		b, c := 3*i, 500-7*i
		x, y, z := crc.Sum(octets(i, 9)), crc.Sum(octets(i, b)), crc.Sum(octets(i, c))
		if p, q := join(join(x, y, b), z, c), join(x, join(y, z, c), b+c); p != q {
			t.Errorf("%d: got %#x, and %#x", i, p, q)
		}
	}
}

// P3.4: what is sealed is opened, and so is what is sealed twice.
func TestSealedIsOpened(t *testing.T) {
	for i, b := range texts() {
		if got, e := crc.Open(crc.Seal(b)); !bytes.Equal(got, b) || e != api.OK {
			t.Errorf("text %d: got %d octets, %d", i, len(got), e)
		}
		once, e := crc.Open(crc.Seal(crc.Seal(b)))
		if got, f := crc.Open(once); !bytes.Equal(got, b) || e != api.OK || f != api.OK {
			t.Errorf("text %d, sealed twice: got %d octets, %d, %d", i, len(got), e, f)
		}
	}
}

// notOpened tells that a sealed text is not opened with the i-th octet another one.
func notOpened(t *testing.T, s []byte, i, turn int) {
	t.Helper()
	s[i] ^= byte(turn)
	if got, e := crc.Open(s); len(got) != 0 || e != api.ErrSum {
		t.Fatalf("octet %d of %d, turned by %d: got %d octets, %d", i, len(s), turn, len(got), e)
	}
	s[i] ^= byte(turn)
}

// P3.4: with one octet another one, whichever, of the text or of the sum, it is not opened.
func TestOneOctet(t *testing.T) {
	for _, b := range texts() {
		s := crc.Seal(b)
		if len(s) > 100 {
			continue
		}
		for i := range s {
			for turn := 1; turn < 256; turn++ {
				notOpened(t, s, i, turn)
			}
		}
	}
}

// P3.4: so it is in the longest text, and in a longer one.
func TestOneOctetOfMany(t *testing.T) {
	for _, n := range []int{api.MaxText, api.MaxBlock} {
		s := crc.Seal(octets(12, n))
		for _, i := range []int{0, 1, n / 2, n - 2, n - 1, n, n + 1, n + 2, n + 3} {
			for _, turn := range []int{1, 2, 16, 128, 255} {
				notOpened(t, s, i, turn)
			}
		}
	}
}
