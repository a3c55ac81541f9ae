package press_test

import (
	"bytes"
	"encoding/binary"
	"fmt"
	"math"
	"math/rand/v2"
	"slices"
	"strconv"
	"testing"

	"tansy/api"
	"tansy/coder"
	"tansy/match"
	"tansy/press"
)

// place is where the next bit of a number is, by a tree at c: c and n, where n is 1 with all bits ahead behind it, in twos.
func place(c int, ahead string) int {
	n, _ := strconv.ParseInt("1"+ahead, 2, 0)
	return c + int(n)
}

// tree is a number of k bits by a tree at c, as the chapter's words say.
func tree(k, c, v int) []api.Bit {
	s, l := fmt.Sprintf("%0*b", k, v), []api.Bit(nil)
	for i, r := range s {
		l = append(l, api.Bit{At: place(c, s[:i]), B: r == '1'})
	}
	return l
}

// told are tokens' bits, as the chapter's words say, whether tokens may be or not.
func told(l []api.Token) []api.Bit {
	var all []api.Bit
	for _, t := range l {
		if t.Len == 0 {
			all = append(append(all, api.Bit{At: 0}), tree(8, 0, int(t.Lit))...)
		} else {
			all = append(append(all, api.Bit{At: 0, B: true}), tree(4, 256, t.Len-3)...)
			all = append(all, tree(8, 272, t.Dist-1)...)
		}
	}
	return all
}

// four is a number in four octets, the lowest one first.
func four(n int) []byte { return binary.LittleEndian.AppendUint32(nil, uint32(n)) }

// packed is what the words say is a packed text of these tokens, that tells of n octets, be that so or not.
func packed(t *testing.T, n int, l []api.Token) []byte {
	t.Helper()
	text, e := coder.Encode(528, told(l))
	if e != api.OK {
		t.Fatalf("got %d", e)
	}
	return append(four(n), text...)
}

func tokens(t *testing.T, b []byte) []api.Token {
	t.Helper()
	l, e := match.Tokens(b)
	if e != api.OK {
		t.Fatalf("got %d", e)
	}
	return l
}

func pack(t *testing.T, b []byte) []byte {
	t.Helper()
	p, e := press.Pack(b)
	if e != api.OK {
		t.Fatalf("%d octets: got %d", len(b), e)
	}
	return p
}

// again is n octets again, from dist behind.
func again(n, dist int) api.Token { return api.Token{Len: n, Dist: dist} }

// octetTokens are octets, one token each.
func octetTokens(b []byte) []api.Token {
	l := make([]api.Token, len(b))
	for i, o := range b {
		l[i].Lit = o
	}
	return l
}

// random is what follows from these numbers alone.
func random(seed, n int) *rand.Rand { return rand.New(rand.NewPCG(uint64(seed), uint64(n))) }

// octets are n, by chance, of so many kinds.
func octets(seed, n, kinds int) []byte {
	x, b := random(seed, n), make([]byte, n)
	for i := range b {
		b[i] = byte(x.IntN(kinds))
	}
	return b
}

// few are all texts of up to so many octets, of so many kinds.
func few(kinds, most int, do func([]byte)) {
	all := 1
	for long := range most + 1 {
		for x := range all {
			b := make([]byte, long)
			for i := range b {
				b[i], x = byte(x%kinds), x/kinds
			}
			do(b)
		}
		all *= kinds
	}
}

// tokensByChance are n tokens that may be.
func tokensByChance(seed, n int) []api.Token {
	x, l, long := random(seed, n), []api.Token(nil), 0
	for range n {
		if long == 0 || x.IntN(3) == 0 {
			l = append(l, api.Token{Lit: byte(x.IntN(256))})
			long++
			continue
		}
		one := again(3+x.IntN(16), 1+x.IntN(min(long, 256)))
		l = append(l, one)
		long += one.Len
	}
	return l
}

// script is a text of places, those of bits that are set with a ! behind them.
func script(l []api.Bit) string {
	var s []byte
	for _, b := range l {
		s = strconv.AppendInt(append(s, ' '), int64(b.At), 10)
		if b.B {
			s = append(s, '!')
		}
	}
	return string(bytes.TrimSpace(s))
}

func tryBits(t *testing.T, l []api.Token) {
	t.Helper()
	if got, e := press.Bits(l); !slices.Equal(got, told(l)) || e != api.OK {
		t.Fatalf("%d tokens, %v: got %d, %s", len(l), l[:min(len(l), 9)], e, script(got[:min(len(got), 99)]))
	}
}

// P7.1: bits that are known.
func TestBitsKnown(t *testing.T) {
	for _, c := range []struct {
		l    []api.Token
		want string
	}{
		{nil, ""},
		{[]api.Token{{Lit: 0}}, "0 1 2 4 8 16 32 64 128"},
		{[]api.Token{{Lit: 255}}, "0 1! 3! 7! 15! 31! 63! 127! 255!"},
		{[]api.Token{{Lit: 0xa5}}, "0 1! 3 6! 13 26 52! 105 210!"},
		{[]api.Token{{Lit: 'a'}, again(4, 1)}, "0 1 2! 5! 11 22 44 88 176! 0! 257 258 260 264! 273 274 276 280 288 304 336 400"},
		{[]api.Token{{Lit: 0}, again(3, 1), again(18, 3)}, "0 1 2 4 8 16 32 64 128 0! 257 258 260 264 273 274 276 280 288 304 336 400 0! 257! 259! 263! 271! 273 274 276 280 288 304 336! 401"},
	} {
		if got, e := press.Bits(c.l); script(got) != c.want || e != api.OK {
			t.Errorf("%v: got %s, %d, want %s", c.l, script(got), e, c.want)
		}
		if got := script(told(c.l)); got != c.want {
			t.Errorf("%v: the words say %s, want %s", c.l, got, c.want)
		}
	}
}

// P7.1: of all octets, and, behind 256 of them, of all lengths from all distances.
func TestBitsOfOne(t *testing.T) {
	var all []byte
	for o := range 256 {
		all = append(all, byte(o))
		tryBits(t, []api.Token{{Lit: byte(o)}})
	}
	l := octetTokens(all)
	for n := 3; n <= 18; n++ {
		for dist := 1; dist <= 256; dist++ {
			tryBits(t, append(l[256-dist:], again(n, dist)))
		}
	}
}

// P7.1: one token's bits are behind the other's: tokens by chance, and MaxText of them, though they tell more than a text has.
func TestBits(t *testing.T) {
	for seed := range 300 {
		tryBits(t, tokensByChance(seed, seed))
	}
	tryMost(t, make([]api.Token, api.MaxText), 9*api.MaxText)
	l := slices.Repeat([]api.Token{again(18, 1)}, api.MaxText)
	l[0] = api.Token{Lit: 7}
	tryMost(t, l, 9+13*(api.MaxText-1))
}

// tryMost: as many bits come, those of the last token behind all others.
func tryMost(t *testing.T, l []api.Token, n int) {
	t.Helper()
	got, e := press.Bits(l)
	want := told(l[len(l)-1:])
	if len(got) != n || e != api.OK || !slices.Equal(got[n-len(want):], want) {
		t.Errorf("got %d bits, %d, want %d", len(got), e, n)
	}
}

// noTokens are lists of tokens that may not be: one that is none, or that tells of an octet ahead of the first one, wherever it stands.
func noTokens() [][]api.Token {
	bad := []api.Token{
		{Len: 1, Dist: 1}, {Len: 2, Dist: 1}, {Len: 19, Dist: 1}, {Len: -1, Dist: 1}, {Len: -3, Dist: 1}, {Len: math.MinInt, Dist: 1}, {Len: math.MaxInt, Dist: 1},
		{Len: 3}, {Len: 3, Dist: -1}, {Len: 3, Dist: 257}, {Len: 3, Dist: math.MinInt}, {Len: 3, Dist: math.MaxInt}, {Len: 18},
		{Lit: 1, Len: 3, Dist: 1}, {Lit: 255, Len: 18, Dist: 2}, {Lit: 1, Dist: 1}, {Dist: 1}, {Dist: -1}, {Dist: 300},
	}
	good := octetTokens(octets(1, 400, 256))
	var all [][]api.Token
	for _, one := range bad {
		l := []api.Token{one}
		all = append(all, l, slices.Concat(good, l), slices.Concat(l, good), slices.Concat(good, l, good))
	}
	for n := range 256 {
		l := append(octetTokens(make([]byte, n)), again(3, n+1))
		all = append(all, l, append(l, good...))
	}
	return append(all, make([]api.Token, api.MaxText+1), make([]api.Token, api.MaxText+2))
}

// P7.1: tokens that may not be are ErrArg.
func TestBitsWrong(t *testing.T) {
	for _, l := range noTokens() {
		if got, e := press.Bits(l); len(got) != 0 || e != api.ErrArg {
			t.Errorf("%d tokens, the last one %v: got %d bits, %d", len(l), l[len(l)-1], len(got), e)
		}
	}
}

// P7.2: packed texts that are known.
func TestPackKnown(t *testing.T) {
	for _, c := range []struct {
		b    string
		want []byte
	}{
		{"", []byte{0, 0, 0, 0, 0, 0, 0, 0, 0}},
		{"\x00", []byte{1, 0, 0, 0, 0, 0, 0, 0, 0, 0}},
		{"\xff", []byte{1, 0, 0, 0, 0, 127, 127, 252, 0, 0}},
		{"a", []byte{1, 0, 0, 0, 0, 48, 127, 252, 0, 0}},
		{"ab", []byte{2, 0, 0, 0, 0, 48, 153, 155, 117, 128, 0}},
		{"abc", []byte{3, 0, 0, 0, 0, 48, 153, 171, 182, 104, 16, 129}},
		{"aaaaa", []byte{5, 0, 0, 0, 0, 48, 197, 220, 0, 0, 0}},
		{"abcabcabcabc", []byte{12, 0, 0, 0, 0, 48, 153, 171, 222, 245, 184, 247, 0}},
		{string(make([]byte, 18)), []byte{18, 0, 0, 0, 0, 0, 120, 62, 28, 0, 0}},
		{string(make([]byte, 19)), []byte{19, 0, 0, 0, 0, 0, 124, 30, 12, 0, 0}},
		{string(make([]byte, 20)), []byte{20, 0, 0, 0, 0, 0, 124, 30, 12, 0, 0, 0}},
		{string(make([]byte, 1000)), []byte{232, 3, 0, 0, 0, 0, 124, 33, 201, 3, 28, 250, 86, 57, 253, 137, 9, 188, 237, 245, 15, 122, 226, 129, 48, 175, 161, 92, 195, 120, 124, 232, 139, 111, 100, 253, 40, 64, 21, 192, 143, 180, 39, 125, 189, 93, 202, 0}},
		{"the cat sat on the mat, the cat sat on the hat", []byte{46, 0, 0, 0, 0, 58, 27, 55, 190, 103, 58, 91, 85, 29, 253, 247, 143, 97, 91, 35, 3, 166, 97, 198, 144, 68, 156, 90, 173, 154, 96, 20, 81, 204}},
	} {
		if got, e := press.Pack([]byte(c.b)); !bytes.Equal(got, c.want) || e != api.OK {
			t.Errorf("%q: got %v, %d, want %v", c.b, got, e, c.want)
		}
		if got := packed(t, len(c.b), tokens(t, []byte(c.b))); !bytes.Equal(got, c.want) {
			t.Errorf("%q: the words say %v, want %v", c.b, got, c.want)
		}
	}
}

func tryPack(t *testing.T, b []byte) {
	t.Helper()
	if got, e := press.Pack(b); !bytes.Equal(got, packed(t, len(b), tokens(t, b))) || e != api.OK {
		t.Fatalf("%d octets, %v: got %d octets, %d", len(b), b[:min(len(b), 20)], len(got), e)
	}
}

// P7.2: of all texts of few octets, and of all octets.
func TestPackOfFew(t *testing.T) {
	few(2, 11, func(b []byte) { tryPack(t, b) })
	few(3, 7, func(b []byte) { tryPack(t, b) })
	few(256, 1, func(b []byte) { tryPack(t, b) })
}

// P7.2: of texts by chance, up to MaxText: of few kinds of octets, of many, and with what was there just within the window, and just beyond it.
func TestPackChance(t *testing.T) {
	for seed := range 200 {
		tryPack(t, octets(seed, seed*3, 1+seed%7))
		tryPack(t, octets(seed, seed*3, 256))
	}
	for far := 250; far <= 260; far++ {
		b := octets(1, far, 256)
		tryPack(t, slices.Concat(b, b, b))
	}
	for _, n := range []int{255, 256, 257, 511, 513, 4000, 65535, 65536} {
		tryPack(t, octets(n, n, 4))
	}
}

// P7.2: how long a text is stands ahead in four octets, the lowest one first.
func TestPackHead(t *testing.T) {
	for _, n := range []int{0, 1, 2, 255, 256, 257, 258, 511, 512, 4660, 0xfffe, 0xffff, 0x10000} {
		got := pack(t, make([]byte, n))
		if want := []byte{byte(n), byte(n / 256), byte(n / 65536), 0}; !bytes.Equal(got[:4], want) {
			t.Errorf("%d: got %v, want %v", n, got[:4], want)
		}
	}
}

// P7.2: more than MaxText octets are ErrLong.
func TestPackLong(t *testing.T) {
	for _, n := range []int{1, 2, 100, api.MaxText, 15 * api.MaxText} {
		for _, kinds := range []int{1, 256} {
			if got, e := press.Pack(octets(n, api.MaxText+n, kinds)); len(got) != 0 || e != api.ErrLong {
				t.Errorf("%d: got %d octets, %d", api.MaxText+n, len(got), e)
			}
		}
	}
}

// P7.3: what the first four octets tell, the lowest one first, whatever the others are.
func TestLong(t *testing.T) {
	for _, n := range []int{0, 1, 2, 127, 128, 255, 256, 257, 0x1234, 0xff00, 0xfffe, 0xffff, 0x10000} {
		for long := 5; long < 20; long++ {
			for _, b := range [][]byte{make([]byte, long), bytes.Repeat([]byte{255}, long), octets(n, long, 256)} {
				if got, e := press.Long(append(four(n), b...)); got != n || e != api.OK {
					t.Errorf("%d, %v: got %d, %d", n, b, got, e)
				}
			}
		}
	}
	for n := range api.MaxText + 1 {
		if got, e := press.Long(append(four(n), 0, 0, 0, 0, 0)); got != n || e != api.OK {
			t.Fatalf("%d: got %d, %d", n, got, e)
		}
	}
	for _, b := range []string{"", "a", "abc", "the cat sat on the mat"} {
		if got, e := press.Long(pack(t, []byte(b))); got != len(b) || e != api.OK {
			t.Errorf("%q: got %d, %d", b, got, e)
		}
	}
}

// noLong are octets that tell no length: fewer than nine, or such as tell more than MaxText.
func noLong() [][]byte {
	l := [][]byte{nil, {}}
	for n := range 9 {
		l = append(l, make([]byte, n), bytes.Repeat([]byte{255}, n), append(four(1), make([]byte, 8)...)[:n], octets(1, n, 256))
	}
	most := []int{api.MaxText + 1, api.MaxText + 2, api.MaxText + 256, 1 << 17, 1<<17 - 1, 1<<24 - 1, 1 << 24, 1<<24 + 5, 1<<31 - 1, 1 << 31, 1<<31 + 5, 1<<32 - 1}
	for bit := 17; bit < 32; bit++ {
		most = append(most, 1<<bit)
	}
	for _, n := range most {
		for _, more := range []int{5, 6, 100} {
			l = append(l, append(four(n), make([]byte, more)...), append(four(n), octets(n, more, 256)...))
		}
	}
	return l
}

// P7.3: fewer than nine octets, and more than MaxText that are told, are ErrForm.
func TestLongWrong(t *testing.T) {
	for _, b := range noLong() {
		if got, e := press.Long(b); got != 0 || e != api.ErrForm {
			t.Errorf("%v: got %d, %d", b, got, e)
		}
	}
}
