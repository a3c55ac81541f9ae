package press_test

import (
	"bytes"
	"slices"
	"testing"

	"tansy/api"
	"tansy/press"
)

// tryBack: what was packed is unpacked, is told to be as long as it was, and is no longer than it may be.
func tryBack(t *testing.T, b []byte) []byte {
	t.Helper()
	p := pack(t, b)
	if len(p) > 16+9*len(b) {
		t.Fatalf("%d octets: got %d", len(b), len(p))
	}
	if n, e := press.Long(p); n != len(b) || e != api.OK {
		t.Fatalf("%d octets: %d are told, %d", len(b), n, e)
	}
	if got, e := press.Unpack(p, len(b)); !bytes.Equal(got, b) || e != api.OK {
		t.Fatalf("%d octets, %v: got %d, %d", len(b), b[:min(len(b), 20)], len(got), e)
	}
	return p
}

// P7.5: what was packed is unpacked: all texts of few octets.
func TestBackOfFew(t *testing.T) {
	few(2, 10, func(b []byte) { tryBack(t, b) })
	few(4, 5, func(b []byte) { tryBack(t, b) })
	few(256, 1, func(b []byte) { tryBack(t, b) })
}

// P7.5: so it is by chance, of few kinds of octets and of many, up to MaxText.
func TestBackChance(t *testing.T) {
	for seed := range 300 {
		tryBack(t, octets(seed, seed*2, 1+seed%9))
		tryBack(t, octets(seed, seed*2, 256))
	}
	for far := 250; far <= 260; far++ {
		b := octets(1, far, 256)
		tryBack(t, slices.Concat(b, b, b))
	}
	for _, n := range []int{4096, 65535, 65536} {
		for _, kinds := range []int{1, 2, 30, 256} {
			tryBack(t, octets(n, n, kinds))
		}
	}
}

// P7.5: octets that are all the same are packed into no more than a sixth of them, and 60.
func TestSame(t *testing.T) {
	try := func(n int, o byte) {
		if p := tryBack(t, bytes.Repeat([]byte{o}, n)); 6*len(p) > n+6*60 {
			t.Errorf("%d octets %d: got %d", n, o, len(p))
		}
	}
	for n := range 1200 {
		try(n, byte(n))
	}
	for n := 1200; n < api.MaxText; n += 1999 {
		try(n, byte(n))
	}
	for o := range 256 {
		try(300, byte(o))
	}
	for _, o := range []byte{0, 'a', 255} {
		try(api.MaxText-1, o)
		try(api.MaxText, o)
	}
}

// against is a text of n octets, each bit of which is the one that the chances are against, so far as no three octets are there again.
func against(n int) []byte {
	c := slices.Repeat([]int{1024}, 256)
	seen := map[string]bool{}
	var b []byte
	for len(b) < n {
		l := []int{1}
		for at := range 8 {
			k := l[at] * 2
			if c[l[at]] > 1024 {
				k++
			}
			l = append(l, k)
		}
		o := byte(l[8])
		for tries := 0; len(b) > 1 && seen[string(append(b[len(b)-2:], o))] && tries < 256; tries++ {
			o++
		}
		if len(b) > 1 {
			seen[string(append(b[len(b)-2:], o))] = true
		}
		for at, k := 7, 1; at >= 0; at-- {
			if o>>at&1 == 1 {
				c[k] -= c[k] / 32
				k = 2*k + 1
			} else {
				c[k] += (2048 - c[k]) / 32
				k *= 2
			}
		}
		b = append(b, o)
	}
	return b
}

// P7.5: no text is packed into more than 16, and nine for each octet: not one whose octets come against the chances, nor one where octets that are all the same are ahead of others.
func TestNotTooLong(t *testing.T) {
	for _, n := range []int{1, 2, 3, 8, 100, 1000, 20000} {
		if p := tryBack(t, against(n)); n >= 1000 && len(p) < n {
			t.Errorf("%d: just %d", n, len(p))
		}
	}
	for seed := range 40 {
		same := bytes.Repeat([]byte{byte(seed * 7)}, seed*40)
		tryBack(t, slices.Concat(same, octets(seed, 20, 256)))
		tryBack(t, slices.Concat(same, octets(seed, 500, 256), same, octets(seed, 9, 256)))
	}
}
