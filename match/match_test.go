package match_test

import (
	"bytes"
	"math"
	"math/rand/v2"
	"slices"
	"testing"

	"tansy/api"
	"tansy/match"
)

func lit(o byte) api.Token { return api.Token{Lit: o} }

func again(long, dist int) api.Token { return api.Token{Len: long, Dist: dist} }

// lits are the tokens of a text that tell each octet by itself.
func lits(s string) []api.Token {
	var l []api.Token
	for i := range len(s) {
		l = append(l, lit(s[i]))
	}
	return l
}

// times is a list, so often.
func times(n int, l ...api.Token) []api.Token { return slices.Repeat(l, n) }

// told is what tokens that may be tell, as the chapter's words say.
func told(ahead []byte, l ...api.Token) []byte {
	b := bytes.Clone(ahead)
	for _, t := range l {
		if t.Len == 0 {
			b = append(b, t.Lit)
		}
		for i := 0; i < t.Len; i++ {
			b = append(b, b[len(b)-t.Dist])
		}
	}
	return b
}

// mayBe tells whether tokens may be, as the chapter's words say.
func mayBe(l []api.Token) bool {
	n := 0
	for _, t := range l {
		octet := t.Len == 0 && t.Dist == 0
		some := 3 <= t.Len && t.Len <= 18 && 1 <= t.Dist && t.Dist <= 256 && t.Lit == 0
		if !octet && !some || t.Dist > n {
			return false
		}
		n += max(1, t.Len)
	}
	return len(l) <= 65536
}

// found is the token that the chapter's words say Find finds, with each Len and Dist tried in turn.
func found(b []byte, at int) (api.Token, bool) {
	for long := min(18, len(b)-at); long >= 3; long-- {
		for dist := 1; dist <= min(256, at); dist++ {
			if b[at-dist] != b[at] { // the first octet that is told: just a short way, to try fewer
				continue
			}
			t := again(long, dist)
			if bytes.Equal(told(b[at-dist:at], t)[dist:], b[at:at+long]) {
				return t, true
			}
		}
	}
	return api.Token{}, false
}

// octets are so many octets below a number, by chance, which follow from seed and n alone.
func octets(seed, n, below int) []byte {
	x := rand.New(rand.NewPCG(uint64(seed), uint64(n)))
	b := make([]byte, n)
	for i := range b {
		b[i] = byte(x.IntN(below))
	}
	return b
}

// distinct are so many octets, of which no three stand twice within the window: each first one of two counts up.
func distinct(n int) []byte {
	b := make([]byte, n)
	for i := range b {
		b[i] = byte(i / 2)
		if i%2 == 1 {
			b[i] = byte(i / 512)
		}
	}
	return b
}

// good are tokens that may be, at the edges of what may, and how many octets they tell.
func good() []struct {
	l []api.Token
	n int
} {
	wide := lits(string(make([]byte, 256)))
	return []struct {
		l []api.Token
		n int
	}{
		{nil, 0},
		{[]api.Token{}, 0},
		{lits("a"), 1},
		{lits("\x00"), 1},
		{lits("\xff"), 1},
		{lits("tansy"), 5},
		{append(lits("a"), again(3, 1)), 4},
		{append(lits("a"), again(4, 1)), 5},
		{append(lits("a"), again(18, 1)), 19},
		{append(lits("abc"), again(3, 3)), 6},
		{append(lits("abc"), again(18, 3), again(18, 21), lit('d'), again(3, 40)), 43},
		{append(lits("ab"), again(5, 2), lit('c'), again(8, 8)), 16},
		{append(slices.Clone(wide), again(3, 256)), 259},
		{append(slices.Clone(wide), again(18, 256), again(18, 256)), 292},
		{append(lits("abc"), times(14, again(18, 1))...), 255},
		{append(lits("abcd"), append(times(14, again(18, 1)), again(3, 256))...), 259},
		{times(api.MaxText, lit(7)), api.MaxText},
		{append(lits("a"), times(api.MaxText-1, again(18, 1))...), 1 + 18*(api.MaxText-1)},
		{append(lits("a"), times(api.MaxText-1, again(3, 1))...), 1 + 3*(api.MaxText-1)},
	}
}

// bad are tokens that may not be, each for one reason alone.
func bad() [][]api.Token {
	wide := lits(string(make([]byte, 300)))
	l := [][]api.Token{
		{again(3, 1)},
		{again(18, 1), lit('a')},
		append(lits("a"), again(3, 2)),
		append(lits("ab"), again(18, 3)),
		append(lits("a"), again(3, 1), again(3, 5)),
		append(lits("a"), again(18, 1), lit('b'), again(3, 21)),
		append(slices.Clone(wide[:255]), again(3, 256)),
		append(lits("abcd"), append(times(13, again(18, 1)), again(17, 1), again(3, 256))...),
		times(api.MaxText+1, lit(7)),
		append(lits("a"), times(api.MaxText, again(3, 1))...),
		{again(3, 1), lit('a'), lit('b'), lit('c')},
	}
	for _, t := range []api.Token{
		again(1, 1), again(2, 1), again(19, 1), again(-1, 1), again(-3, 1), again(math.MaxInt, 1), again(math.MinInt, 1),
		again(3, 0), again(18, 0), again(3, -1), again(3, 257), again(18, 257), again(3, math.MaxInt), again(3, math.MinInt),
		again(0, 1), again(0, 256), again(0, -1), again(0, math.MinInt), again(0, math.MaxInt), again(-1, 0), again(1, 0),
		{Lit: 1, Dist: 1}, {Lit: 1, Len: 3, Dist: 1}, {Lit: 255, Len: 18, Dist: 256}, {Lit: 1, Len: 3}, {Lit: 1, Len: 1},
	} {
		l = append(l, append(slices.Clone(wide), t), append(append(slices.Clone(wide), t), lits("behind")...))
	}
	return l
}

// P4.1: Check tells which tokens may be, Long how many octets they tell, and Text them.
func TestGood(t *testing.T) {
	for i, c := range good() {
		if e := match.Check(c.l); e != api.OK {
			t.Errorf("%d: got %d", i, e)
		}
		if n, e := match.Long(c.l); n != c.n || e != api.OK {
			t.Errorf("%d: got %d, %d, want %d", i, n, e, c.n)
		}
		b, e := match.Text(c.l, math.MaxInt)
		if c.n > api.MaxText {
			if len(b) != 0 || e != api.ErrLong {
				t.Errorf("%d: got %d octets, %d", i, len(b), e)
			}
		} else if !bytes.Equal(b, told(nil, c.l...)) || e != api.OK {
			t.Errorf("%d: got %v, %d", i, b, e)
		}
	}
}

// P4.1: of tokens that may not be, Check, Long, and Text are ErrArg, and all else is zero, whatever most is.
func TestBad(t *testing.T) {
	for i, l := range bad() {
		if e := match.Check(l); e != api.ErrArg {
			t.Errorf("%d: got %d", i, e)
		}
		if n, e := match.Long(l); n != 0 || e != api.ErrArg {
			t.Errorf("%d: got %d, %d", i, n, e)
		}
		for _, most := range []int{math.MinInt, -1, 0, 1, api.MaxText, math.MaxInt} {
			if b, e := match.Text(l, most); len(b) != 0 || e != api.ErrArg {
				t.Errorf("%d, %d: got %d octets, %d", i, most, len(b), e)
			}
		}
	}
}

// P4.1: texts that are known.
func TestTextKnown(t *testing.T) {
	for _, c := range []struct {
		l    []api.Token
		want string
	}{
		{nil, ""},
		{lits("tansy"), "tansy"},
		{append(lits("a"), again(4, 1)), "aaaaa"},
		{append(lits("ab"), again(3, 2), lit('c')), "ababac"},
		{append(lits("abc"), again(4, 2), again(3, 7)), "abcbcbcabc"},
		{append(lits("x\x00\xff"), again(6, 3)), "x\x00\xffx\x00\xffx\x00\xff"},
		{append(lits("abcdef"), again(3, 6), again(3, 4)), "abcdefabcfab"},
	} {
		if got, e := match.Text(c.l, len(c.want)); string(got) != c.want || e != api.OK {
			t.Errorf("%v: got %q, %d, want %q", c.l, got, e, c.want)
		}
	}
}

// P4.1: most is ErrArg below 0; tokens that tell more are ErrLong; so are those that tell more than a text has, though most be more.
func TestTextMost(t *testing.T) {
	long := append(lits("a"), times(3640, again(18, 1))...) // 65521 octets
	full := append(slices.Clone(long), again(15, 1))
	over := append(slices.Clone(long), again(16, 1))
	for _, c := range []struct {
		l    []api.Token
		n    int
		most int
		e    api.Errno
	}{
		{nil, 0, 0, api.OK},
		{nil, 0, 1, api.OK},
		{nil, 0, -1, api.ErrArg},
		{nil, 0, math.MinInt, api.ErrArg},
		{lits("a"), 1, 0, api.ErrLong},
		{lits("a"), 1, -1, api.ErrArg},
		{lits("a"), 1, 1, api.OK},
		{append(lits("a"), again(4, 1)), 5, 4, api.ErrLong},
		{append(lits("a"), again(4, 1)), 5, 5, api.OK},
		{append(lits("a"), again(4, 1)), 5, 6, api.OK},
		{append(lits("a"), again(4, 1)), 5, math.MaxInt, api.OK},
		{append(lits("a"), again(4, 1)), 5, 2, api.ErrLong},
		{full, api.MaxText, api.MaxText, api.OK},
		{full, api.MaxText, api.MaxText - 1, api.ErrLong},
		{full, api.MaxText, api.MaxText + 1, api.OK},
		{full, api.MaxText, -1, api.ErrArg},
		{over, api.MaxText + 1, api.MaxText, api.ErrLong},
		{over, api.MaxText + 1, api.MaxText + 1, api.ErrLong},
		{over, api.MaxText + 1, math.MaxInt, api.ErrLong},
		{over, api.MaxText + 1, -1, api.ErrArg},
		{over, api.MaxText + 1, 0, api.ErrLong},
	} {
		b, e := match.Text(c.l, c.most)
		if e != c.e || e == api.OK && len(b) != c.n || e != api.OK && len(b) != 0 {
			t.Errorf("%d of at most %d: got %d octets, %d, want %d", c.n, c.most, len(b), e, c.e)
		}
		if n, e := match.Long(c.l); n != c.n || e != api.OK {
			t.Errorf("got %d, %d, want %d", n, e, c.n)
		}
	}
}

// P4.1: all short lists of tokens at the edges of what one is go as the words say.
func TestAllOfFew(t *testing.T) {
	var all []api.Token
	for _, o := range []byte{0, 1} {
		for _, long := range []int{-1, 0, 1, 2, 3, 4, 18, 19} {
			for _, dist := range []int{-1, 0, 1, 2, 4, 5} {
				all = append(all, api.Token{Lit: o, Len: long, Dist: dist})
			}
		}
	}
	for _, a := range all {
		tryList(t, a)
		for _, b := range all {
			tryList(t, a, b)
			for _, c := range all {
				tryList(t, a, b, c)
			}
		}
	}
}

func tryList(t *testing.T, l ...api.Token) {
	t.Helper()
	var want []byte
	e := api.ErrArg
	if mayBe(l) {
		want, e = told(nil, l...), api.OK
	}
	n, f := match.Long(l)
	got, g := match.Text(l, 60)
	if match.Check(l) != e || n != len(want) || f != e || !bytes.Equal(got, want) || g != e {
		t.Fatalf("%v: got %d, %d, %d, %q, %d, want %q, %d", l, match.Check(l), n, f, got, g, want, e)
	}
}

// P4.2: what is found is known.
func TestFindKnown(t *testing.T) {
	gap := string(distinct(600))
	for _, c := range []struct {
		what string
		b    string
		at   int
		want api.Token
	}{
		{"the chapter's example", "aaaaa", 1, again(4, 1)},
		{"no octet behind the end", "aaaa", 1, again(3, 1)},
		{"over its own octets", "abababab", 2, again(6, 2)},
		{"not over its own octets", "abcabc", 3, again(3, 3)},
		{"the longer one, though farther", "abcdxabcyabcd", 9, again(4, 9)},
		{"the longer one, though nearer", "abcxabcdyabcd", 9, again(4, 5)},
		{"of as long ones the nearest", "abcxabcyabcz", 8, again(3, 4)},
		{"of as long ones the nearest over its own octets", "aaaaaaa", 3, again(4, 1)},
		{"all 18", string(bytes.Repeat([]byte("a"), 40)), 1, again(18, 1)},
		{"all 18 and no more", "abcdefghijklmnopqrstuvwxyz-abcdefghijklmnopqrstuvwxyz", 27, again(18, 27)},
		{"of two of 18 the nearer one, though more were alike", "abcdefghijklmnopqrstuvwxyz-abcdefghijklmnopqrs+abcdefghijklmnopqrstuvwxyz", 47, again(18, 20)},
		{"from the first octet on", "abcd-abcd", 5, again(4, 5)},
		{"zeros", "\x00\x00\x00\x00", 1, again(3, 1)},
		{"256 behind", "xyz" + gap[:253] + "xyz", 256, again(3, 256)},
		{"256 behind, not the first octet", "..xyzw" + gap[:252] + "xyzw", 258, again(4, 256)},
	} {
		got, e := match.Find([]byte(c.b), c.at)
		if got != c.want || e != api.OK {
			t.Errorf("%s: got %v, %d, want %v", c.what, got, e, c.want)
		}
		if w, ok := found([]byte(c.b), c.at); !ok || w != c.want {
			t.Errorf("%s: the words have %v, %v, want %v", c.what, w, ok, c.want)
		}
	}
}

// P4.2: nothing is found where nothing was, or too few octets, or too far behind.
func TestFindNone(t *testing.T) {
	gap := string(distinct(600))
	for _, c := range []struct {
		what string
		b    string
		at   int
	}{
		{"the first octet", "aaaaa", 0},
		{"one alone", "a", 0},
		{"two", "ab-ab", 3},
		{"two at the end", "abcab", 3},
		{"two of zeros at the end", "\x00\x00\x00", 1},
		{"one at the end", "aaaa", 3},
		{"the last but one", "aaaaa", 3},
		{"another third octet", "abcabd", 3},
		{"257 behind", "xyz" + gap[:254] + "xyz", 257},
		{"only what comes behind", "xyzabcabc", 0},
	} {
		if got, e := match.Find([]byte(c.b), c.at); got != (api.Token{}) || e != api.ErrNone {
			t.Errorf("%s: got %v, %d", c.what, got, e)
		}
	}
}

// P4.2: a text that is too long is ErrLong, wherever at is; else a place that there is not is ErrArg.
func TestFindWrong(t *testing.T) {
	places := []int{-1, -18, math.MinInt, math.MaxInt, math.MaxInt - 1, math.MaxInt - 18}
	for _, n := range []int{0, 1, 2, 3, 19, 256, api.MaxText} {
		for _, at := range append(places, n, n+1) {
			if got, e := match.Find(make([]byte, n), at); got != (api.Token{}) || e != api.ErrArg {
				t.Errorf("%d of %d: got %v, %d", at, n, got, e)
			}
		}
	}
	for _, n := range []int{api.MaxText + 1, api.MaxText + 2, api.MaxBlock} {
		for _, at := range append(places, 0, 1, api.MaxText-1, api.MaxText, n-1, n, n+1) {
			if got, e := match.Find(make([]byte, n), at); got != (api.Token{}) || e != api.ErrLong {
				t.Errorf("%d of %d: got %v, %d", at, n, got, e)
			}
		}
	}
	b := make([]byte, api.MaxText)
	for at, want := range map[int]api.Token{1: again(18, 1), api.MaxText - 18: again(18, 1), api.MaxText - 3: again(3, 1)} {
		if got, e := match.Find(b, at); got != want || e != api.OK {
			t.Errorf("%d of the longest: got %v, %d, want %v", at, got, e, want)
		}
	}
}

// P4.2: at all places of all short texts of two octets what is found is what the words say.
func TestFindAllOfFew(t *testing.T) {
	for n := range 13 {
		for bits := range 1 << n {
			b := make([]byte, n)
			for i := range b {
				b[i] = 'a' + byte(bits>>i&1)
			}
			tryFind(t, b)
		}
	}
}

// P4.2: so it is in texts by chance: short ones of many kinds, and such as are longer than the window.
func TestFindChance(t *testing.T) {
	for n := range 60 {
		for below := 1; below < 6; below++ {
			tryFind(t, octets(n, n, below))
		}
	}
	for seed, below := range []int{1, 2, 3, 5, 9, 16, 40} {
		tryFind(t, octets(seed, 600, below))
	}
	for _, period := range []int{17, 18, 19, 200, 255, 256, 257, 258} {
		tryFind(t, bytes.Repeat(distinct(period), 3))
	}
}

func tryFind(t *testing.T, b []byte) {
	t.Helper()
	for at := range b {
		want, ok := found(b, at)
		e := api.OK
		if !ok {
			e = api.ErrNone
		}
		if got, f := match.Find(b, at); got != want || f != e {
			t.Fatalf("%v, %d: got %v, %d, want %v, %d", b, at, got, f, want, e)
		}
	}
}

// P4.3: tokens that are known.
func TestTokensKnown(t *testing.T) {
	for _, c := range []struct {
		b    string
		want []api.Token
	}{
		{"", nil},
		{"a", lits("a")},
		{"aaa", lits("aaa")},
		{"aaaa", append(lits("a"), again(3, 1))},
		{"aaaaa", append(lits("a"), again(4, 1))},
		{string(bytes.Repeat([]byte("a"), 19)), append(lits("a"), again(18, 1))},
		{string(bytes.Repeat([]byte("a"), 21)), append(lits("a"), again(18, 1), lit('a'), lit('a'))},
		{string(bytes.Repeat([]byte("a"), 22)), append(lits("a"), again(18, 1), again(3, 1))},
		{"tansy", lits("tansy")},
		{"abcabcabcabd", append(lits("abc"), again(8, 3), lit('d'))},
		{"abxbcyabc", lits("abxbcyabc")},
		{"abcd-bcde-abcde", append(lits("abcd-"), append([]api.Token{again(3, 4)}, append(lits("e-"), again(4, 10), lit('e'))...)...)},
		{"\x00\x00\x00\x00\xff", append(lits("\x00"), again(3, 1), lit(255))},
	} {
		if got, e := match.Tokens([]byte(c.b)); !slices.Equal(got, c.want) || e != api.OK {
			t.Errorf("%q: got %v, %d, want %v", c.b, got, e, c.want)
		}
	}
	if got, e := match.Tokens(nil); len(got) != 0 || e != api.OK {
		t.Errorf("got %v, %d", got, e)
	}
}

// P4.3: of each place that is next there is what is found there, else its octet.
func TestTokens(t *testing.T) {
	for i, b := range texts() {
		var want []api.Token
		for at := 0; at < len(b); {
			one, e := match.Find(b, at)
			if e != api.OK {
				one = lit(b[at])
			}
			want = append(want, one)
			at += max(1, one.Len)
		}
		if got, e := match.Tokens(b); !slices.Equal(got, want) || e != api.OK {
			t.Errorf("text %d: got %v, %d, want %v", i, got, e, want)
		}
	}
}

// P4.3: a text that is too long is ErrLong.
func TestTokensLong(t *testing.T) {
	for _, n := range []int{api.MaxText + 1, api.MaxText + 2, api.MaxBlock} {
		if got, e := match.Tokens(make([]byte, n)); len(got) != 0 || e != api.ErrLong {
			t.Errorf("%d: got %d tokens, %d", n, len(got), e)
		}
	}
	if got, e := match.Tokens(make([]byte, api.MaxText)); len(got) != 3642 || e != api.OK {
		t.Errorf("got %d tokens, %d", len(got), e)
	}
	if got, e := match.Tokens(distinct(api.MaxText)); !slices.Equal(got, lits(string(distinct(api.MaxText)))) || e != api.OK {
		t.Errorf("got %d tokens, %d", len(got), e)
	}
}
