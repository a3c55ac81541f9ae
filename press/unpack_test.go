package press_test

import (
	"bytes"
	"encoding/binary"
	"math"
	"slices"
	"testing"

	"tansy/api"
	"tansy/coder"
	"tansy/press"
)

// read is a number of k bits by a tree at c, as the chapter's words say; it is false behind a reader's error.
func read(r *coder.Reader, k, c int) (int, bool) {
	ahead := ""
	for range k {
		b, e := r.Next(place(c, ahead))
		if e != api.OK {
			return 0, false
		}
		if b {
			ahead += "1"
		} else {
			ahead += "0"
		}
	}
	return place(0, ahead) - 1<<k, true
}

// readNext tells the next token's octets behind b; it is false, if it can not be read, or tells of an octet ahead of the first one.
func readNext(r *coder.Reader, b []byte) ([]byte, bool) {
	again, e := r.Next(0)
	if e != api.OK {
		return nil, false
	}
	if !again {
		lit, ok := read(r, 8, 0)
		return append(b, byte(lit)), ok
	}
	n, ok := read(r, 4, 256)
	dist, also := read(r, 8, 272)
	if !ok || !also || dist+1 > len(b) {
		return nil, false
	}
	for range n + 3 {
		b = append(b, b[len(b)-1-dist])
	}
	return b, true
}

// unpacked is what the words say of unpacking; errors in the order in which they are named.
func unpacked(b []byte, most int) ([]byte, api.Errno) {
	if most < 0 {
		return nil, api.ErrArg
	}
	if len(b) < 9 || binary.LittleEndian.Uint32(b) > 65536 {
		return nil, api.ErrForm
	}
	n := int(binary.LittleEndian.Uint32(b))
	if n > most {
		return nil, api.ErrLong
	}
	r, e := coder.NewReader(528, b[4:])
	if e != api.OK {
		return nil, api.ErrForm
	}
	var text []byte
	for ok := true; len(text) < n; {
		if text, ok = readNext(r, text); !ok {
			return nil, api.ErrForm
		}
	}
	if len(text) > n || 4+r.Used() != len(b) {
		return nil, api.ErrForm
	}
	return text, api.OK
}

// tryUnpack holds Unpack against the words, and answers what they say.
func tryUnpack(t *testing.T, b []byte, most int) api.Errno {
	t.Helper()
	want, f := unpacked(b, most)
	if got, e := press.Unpack(b, most); !bytes.Equal(got, want) || e != f {
		t.Fatalf("%v, at most %d: got %v, %d, want %v, %d", b[:min(len(b), 30)], most, got[:min(len(got), 30)], e, want[:min(len(want), 30)], f)
	}
	return f
}

// wrongForm: these octets are ErrForm, for all that may come at the most.
func wrongForm(t *testing.T, b []byte) {
	t.Helper()
	for _, most := range []int{api.MaxText, math.MaxInt} {
		if got, e := press.Unpack(b, most); len(got) != 0 || e != api.ErrForm {
			t.Errorf("%v, at most %d: got %d octets, %d", b[:min(len(b), 30)], most, len(got), e)
		}
	}
}

// P7.4: texts that are known; of a text of no octets any code may be but the greatest one.
func TestUnpackKnown(t *testing.T) {
	for _, c := range []struct {
		b    []byte
		want string
	}{
		{[]byte{0, 0, 0, 0, 0, 0, 0, 0, 0}, ""},
		{[]byte{0, 0, 0, 0, 0, 255, 255, 255, 254}, ""},
		{[]byte{0, 0, 0, 0, 0, 1, 2, 3, 4}, ""},
		{[]byte{1, 0, 0, 0, 0, 48, 127, 252, 0, 0}, "a"},
		{[]byte{1, 0, 0, 0, 0, 48, 127, 252, 0, 99}, "a"},
		{[]byte{5, 0, 0, 0, 0, 48, 197, 220, 0, 0, 0}, "aaaaa"},
		{[]byte{12, 0, 0, 0, 0, 48, 153, 171, 222, 245, 184, 247, 0}, "abcabcabcabc"},
		{[]byte{20, 0, 0, 0, 0, 0, 124, 30, 12, 0, 0, 0}, string(make([]byte, 20))},
	} {
		for _, most := range []int{len(c.want), len(c.want) + 1, 65536, 65537, 1 << 32, math.MaxInt} {
			if got, e := press.Unpack(c.b, most); string(got) != c.want || e != api.OK {
				t.Errorf("%v, at most %d: got %q, %d, want %q", c.b, most, got, e, c.want)
			}
		}
	}
}

// P7.4: whichever tokens a text was told by, it is unpacked.
func TestUnpackTokens(t *testing.T) {
	for seed := range 400 {
		l := tokensByChance(seed, seed)
		n := 0
		for _, one := range l {
			n += max(one.Len, 1)
		}
		if e := tryUnpack(t, packed(t, n, l), n); e != api.OK {
			t.Fatalf("%d: got %d", seed, e)
		}
		b := octets(seed, seed, 1+seed%3)
		if got, e := press.Unpack(packed(t, len(b), octetTokens(b)), len(b)); !bytes.Equal(got, b) || e != api.OK {
			t.Errorf("%v, octet by octet: got %v, %d", b, got, e)
		}
	}
}

// P7.4: most below 0 is ErrArg, whatever the octets are.
func TestUnpackWrong(t *testing.T) {
	good := pack(t, []byte("the cat sat on the mat"))
	for _, b := range append(noLong(), make([]byte, 9), good, good[:12], append(good, 0)) {
		for _, most := range []int{-1, -2, -65536, -1 << 32, math.MinInt} {
			if got, e := press.Unpack(b, most); len(got) != 0 || e != api.ErrArg {
				t.Errorf("%v, at most %d: got %v, %d", b, most, got, e)
			}
		}
	}
}

// P7.4: Long's error comes ahead of ErrLong.
func TestUnpackNoLong(t *testing.T) {
	for _, b := range noLong() {
		for _, most := range []int{0, 1, 65536, 65537, 1 << 20, 1 << 32, math.MaxInt} {
			if got, e := press.Unpack(b, most); len(got) != 0 || e != api.ErrForm {
				t.Errorf("%v, at most %d: got %v, %d", b, most, got, e)
			}
		}
	}
}

// P7.4: more octets told than may come at the most is ErrLong, whatever is behind.
func TestUnpackLong(t *testing.T) {
	for _, n := range []int{1, 2, 3, 22, 255, 256, 257, 65535, 65536} {
		good := pack(t, octets(n, n, 2))
		bad := append(four(n), 0, 255, 255, 255, 255)
		for _, most := range []int{0, 1, n / 2, n - 1} {
			if most >= n {
				continue
			}
			for _, b := range [][]byte{good, bad, good[:9], append(good, 0), append(four(n), 1, 0, 0, 0, 0)} {
				if got, e := press.Unpack(b, most); len(got) != 0 || e != api.ErrLong {
					t.Errorf("%d, at most %d: got %d octets, %d", n, most, len(got), e)
				}
			}
		}
		for _, most := range []int{n, n + 1, math.MaxInt} {
			if got, e := press.Unpack(good, most); !bytes.Equal(got, octets(n, n, 2)) || e != api.OK {
				t.Errorf("%d, at most %d: got %d octets, %d", n, most, len(got), e)
			}
			if got, e := press.Unpack(bad, most); len(got) != 0 || e != api.ErrForm {
				t.Errorf("%d, at most %d, bad: got %d octets, %d", n, most, len(got), e)
			}
		}
	}
}

// P7.4: a reader's error is ErrForm, of no octets too: another octet ahead, the greatest code, and octets that are wanting.
func TestUnpackReader(t *testing.T) {
	for _, b := range [][]byte{nil, []byte("a"), []byte("aaaaa"), []byte("the cat sat on the mat"), octets(1, 300, 256), octets(2, 3000, 3)} {
		good := pack(t, b)
		for first := 1; first < 256; first++ {
			wrongForm(t, slices.Concat(good[:4], []byte{byte(first)}, good[5:]))
		}
		wrongForm(t, slices.Concat(good[:5], []byte{255, 255, 255, 255}, good[9:]))
		for n := range good {
			wrongForm(t, good[:n])
		}
	}
	for n := 1; n < 70; n++ {
		wrongForm(t, append(four(n), make([]byte, 5)...))
		wrongForm(t, append(four(n), 0, 255, 255, 255, 254))
	}
}

// P7.4: octets behind, that were not read, are ErrForm, of no octets too.
func TestUnpackBehind(t *testing.T) {
	for _, b := range [][]byte{nil, []byte("a"), []byte("aaaaa"), []byte("the cat sat on the mat"), octets(1, 300, 256), octets(2, 65536, 3)} {
		good := pack(t, b)
		for _, more := range [][]byte{{0}, {1}, {255}, {0, 0}, {255, 255, 255, 255, 255}, good} {
			wrongForm(t, slices.Concat(good, more))
		}
	}
}

// P7.4: a token that tells of an octet ahead of the first one is ErrForm, wherever it stands.
func TestUnpackAhead(t *testing.T) {
	for n := range 256 {
		l := octetTokens(octets(n, n, 256))
		for _, one := range []api.Token{again(3, n+1), again(18, n+1), again(3, 256), again(18, 256)} {
			for _, more := range [][]api.Token{nil, octetTokens(octets(1, 21, 256)), {again(3, 1), again(18, 3)}} {
				text := packed(t, n+one.Len+21*min(len(more), 1), slices.Concat(l, []api.Token{one}, more))
				wrongForm(t, text)
				wrongForm(t, append(four(n+one.Len), text[4:]...))
				wrongForm(t, append(four(n+1), text[4:]...))
			}
		}
		if n > 0 {
			tryUnpack(t, packed(t, n+18, append(l, again(18, n))), n+18)
		}
	}
}

// P7.4: a token that tells more octets than are wanting is ErrForm, but one that tells just as many is not.
func TestUnpackMore(t *testing.T) {
	for _, n := range []int{1, 2, 5, 256, 257, 1000} {
		b := octets(n, n, 256)
		for long := 3; long <= 18; long++ {
			text := packed(t, n, append(octetTokens(b), again(long, 1)))
			for more := 1; more < long; more++ {
				wrongForm(t, append(four(n+more), text[4:]...))
			}
			got, e := press.Unpack(append(four(n+long), text[4:]...), api.MaxText)
			if want := slices.Concat(b, bytes.Repeat(b[n-1:], long)); !bytes.Equal(got, want) || e != api.OK {
				t.Errorf("%d, and %d: got %d octets, %d", n, long, len(got), e)
			}
		}
	}
	l := slices.Repeat([]api.Token{again(18, 1)}, 3641)
	l[0] = api.Token{Lit: 7}
	for _, c := range []struct {
		last api.Token
		n    int
		e    api.Errno
	}{
		{again(15, 1), 65536, api.OK}, {again(16, 1), 65536, api.ErrForm}, {again(18, 1), 65536, api.ErrForm}, {again(15, 1), 65535, api.ErrForm}, {again(14, 1), 65535, api.OK},
	} {
		got, e := press.Unpack(packed(t, c.n, append(l, c.last)), api.MaxText)
		if want := bytes.Repeat([]byte{7}, c.n); e != c.e || e == api.OK && !bytes.Equal(got, want) || e != api.OK && len(got) != 0 {
			t.Errorf("%d of %v: got %d octets, %d", c.n, c.last, len(got), e)
		}
	}
}

// P7.4, P7.5: whatever octets there are, Unpack does as the words say, and no more octets come than are told: packed texts with each octet another one, in turn.
func TestUnpackOther(t *testing.T) {
	var came [12]int
	for _, b := range [][]byte{nil, []byte("a"), []byte("abcabcabcabc"), make([]byte, 60), []byte("the cat sat on the mat, the cat sat on the hat"), octets(1, 30, 256)} {
		good := pack(t, b)
		for i := range good {
			for o := range 256 {
				other := bytes.Clone(good)
				other[i] = byte(o)
				came[tryUnpack(t, other, 300)]++
			}
		}
	}
	if came[api.OK] < 500 || came[api.ErrForm] < 10000 || came[api.ErrLong] < 500 {
		t.Errorf("just these came: %v", came)
	}
}

// P7.4, P7.5: so it is with octets by chance: as many as are told by as few as can tell them, and up to the most.
func TestUnpackChance(t *testing.T) {
	var came [12]int
	for seed := range 40000 {
		x := random(seed, 8)
		b := slices.Concat(four(x.IntN(9)), []byte{0}, octets(seed, 4+x.IntN(9), 256))
		came[tryUnpack(t, b, 5+x.IntN(9))]++
		b = slices.Concat(four(x.IntN(30)), []byte{0}, octets(seed, 4+x.IntN(9), 20))
		came[tryUnpack(t, b, api.MaxText)]++
	}
	if came[api.OK] < 1000 || came[api.ErrForm] < 20000 || came[api.ErrLong] < 2000 {
		t.Errorf("just these came: %v", came)
	}
	for seed := range 40 {
		tryUnpack(t, slices.Concat(four(api.MaxText), []byte{0}, octets(seed, 100000, 256)), api.MaxText)
		tryUnpack(t, octets(seed, seed, 3), api.MaxText)
	}
	tryUnpack(t, slices.Concat(four(api.MaxText), make([]byte, 100000)), api.MaxText)
	tryUnpack(t, slices.Concat(four(api.MaxText), make([]byte, 3000)), api.MaxText)
}
