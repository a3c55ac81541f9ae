package solid_test

import (
	"bytes"
	"hash/crc32"
	"math"
	"math/rand/v2"
	"slices"
	"testing"

	"tansy/api"
	"tansy/solid"
)

// standing are where texts stand, one behind the other.
func standing(l [][]byte) []api.Piece {
	var all []api.Piece
	for i, b := range l {
		all = append(all, api.Piece{From: len(slices.Concat(l[:i]...)), Len: len(b), Sum: crc32.ChecksumIEEE(b)})
	}
	return all
}

// builds holds what Build tells against the words.
func builds(t *testing.T, r api.Ring, l [][]byte) {
	t.Helper()
	got, at, behind, e := solid.Build(r, l)
	want := block(t, r, slices.Concat(l...))
	if !bytes.Equal(got, want) || !slices.Equal(at, standing(l)) || behind != (api.Ring{Key: r.Key, Next: r.Next + 1}) || e != api.OK {
		t.Fatalf("%#x, %.99v: got %.99v, %v, %#x, %d", r, l, got, at, behind, e)
	}
}

// unbuilt takes it that Build tells this error, and nothing else.
func unbuilt(t *testing.T, r api.Ring, l [][]byte, want api.Errno) {
	t.Helper()
	if got, at, behind, e := solid.Build(r, l); len(got) != 0 || len(at) != 0 || behind != (api.Ring{}) || e != want {
		t.Errorf("%#x, %d texts: got %.99v, %.9v, %#x, %d, want %d", r, len(l), got, at, behind, e, want)
	}
}

// P15.2: of "ab" and "c" the second one is 1 octet from 2 on.
func TestBuildKnown(t *testing.T) {
	r := api.Ring{Key: few, Next: 5}
	got, at, behind, e := solid.Build(r, [][]byte{[]byte("ab"), []byte("c")})
	whole, _, _ := solid.Seal(r, []byte("abc"))
	if !bytes.Equal(got, whole) || behind != (api.Ring{Key: few, Next: 6}) || e != api.OK {
		t.Errorf("got %v, %#x, %d", got, behind, e)
	}
	if want := []api.Piece{{From: 0, Len: 2, Sum: 2659403885}, {From: 2, Len: 1, Sum: 112844655}}; !slices.Equal(at, want) {
		t.Errorf("got %v", at)
	}
}

// P15.2: all lists of up to three of a few texts, texts without octets among them, and lists by chance.
func TestBuild(t *testing.T) {
	texts := [][]byte{nil, {}, {0}, []byte("a"), []byte("ab"), []byte("an archive"), make([]byte, 300)}
	for _, r := range rings() {
		builds(t, r, nil)
		builds(t, r, [][]byte{})
		for _, a := range texts {
			builds(t, r, [][]byte{a})
			for _, b := range texts {
				builds(t, r, [][]byte{a, b})
			}
		}
	}
	for i := range 343 {
		builds(t, api.Ring{Key: few, Next: uint64(i)}, [][]byte{texts[i%7], texts[i/7%7], texts[i/49]})
	}
	x := rand.New(rand.NewPCG(12, 15))
	for range 300 {
		l := make([][]byte, x.IntN(40))
		for i := range l {
			l[i] = octets(x.Int(), x.IntN(30), 1+x.IntN(256))
		}
		builds(t, api.Ring{Key: most, Next: x.Uint64N(math.MaxUint64)}, l)
	}
}

// P15.2: many texts: as many as an octet each makes a text, and more of none.
func TestBuildMany(t *testing.T) {
	one := make([][]byte, api.MaxText+1)
	for i := range one {
		one[i] = []byte{byte(i >> 9)}
	}
	r := api.Ring{Key: few, Next: 5}
	got, at, _, e := solid.Build(r, one[:api.MaxText])
	if len(got) == 0 || len(at) != api.MaxText || e != api.OK {
		t.Fatalf("got %d octets, %d pieces, %d", len(got), len(at), e)
	}
	for i, p := range at {
		if p != (api.Piece{From: i, Len: 1, Sum: crc32.ChecksumIEEE(one[i])}) {
			t.Fatalf("%d: got %v", i, p)
		}
	}
	unbuilt(t, r, one, api.ErrLong)
	none := make([][]byte, 2*api.MaxText)
	got, at, _, e = solid.Build(r, none)
	if !bytes.Equal(got, block(t, r, nil)) || len(at) != len(none) || slices.Max(sums(at)) != 0 || e != api.OK {
		t.Errorf("got %v, %d pieces, %d", got, len(at), e)
	}
}

// sums are those of pieces, and where they stand, and how long they are.
func sums(l []api.Piece) []int {
	var all []int
	for _, p := range l {
		all = append(all, p.From, p.Len, int(p.Sum))
	}
	return all
}

// P15.2: ErrLong, if texts have more than MaxText octets together, whichever of them is the long one, and ahead of ErrFull.
func TestBuildLong(t *testing.T) {
	zeros := make([]byte, 1<<20)
	for _, r := range []api.Ring{{Key: few, Next: 5}, {Key: few, Next: math.MaxUint64}} {
		for _, lengths := range [][]int{
			{65537}, {65537, 0}, {0, 65537}, {65536, 1}, {1, 65536}, {65535, 1, 1}, {32768, 32769}, {32769, 32768}, {0, 65536, 0, 1, 0},
			{1, 65537}, {65536, 65536}, {65537, 65537}, {131072}, {1 << 20, 1}, {1, 1 << 20}, {21846, 21846, 21845},
		} {
			var l [][]byte
			for _, n := range lengths {
				l = append(l, zeros[:n])
			}
			unbuilt(t, r, l, api.ErrLong)
		}
		unbuilt(t, r, slices.Repeat([][]byte{zeros}, 1<<16), api.ErrLong)
		unbuilt(t, r, slices.Repeat([][]byte{zeros[:256]}, 257), api.ErrLong)
	}
	for _, lengths := range [][]int{{65536}, {65536, 0}, {0, 65536}, {65535, 1}, {1, 65535}, {32768, 32768}, {0, 65535, 0, 1, 0}, {21846, 21846, 21844}} {
		var l [][]byte
		for i, n := range lengths {
			l = append(l, bytes.Repeat([]byte{byte(i)}, n))
		}
		builds(t, api.Ring{Key: most, Next: 1}, l)
	}
}

// P15.2: Seal's error, of all: ErrLong, if all together can not be packed well enough, and ErrFull at the end of a ring.
func TestBuildErrors(t *testing.T) {
	all := octets(13, api.MaxText, 256)
	halves := [][]byte{all[:1<<15], all[1<<15:]}
	builds(t, api.Ring{Key: few, Next: 5}, halves[:1])
	builds(t, api.Ring{Key: few, Next: 5}, halves[1:])
	unbuilt(t, api.Ring{Key: few, Next: 5}, halves, api.ErrLong)
	full := api.Ring{Key: few, Next: math.MaxUint64}
	unbuilt(t, full, halves, api.ErrLong)
	for _, l := range [][][]byte{nil, {nil}, {{1}}, halves[:1], {make([]byte, api.MaxText)}} {
		unbuilt(t, full, l, api.ErrFull)
	}
}

// cuts holds what Cut tells against the words.
func cuts(t *testing.T, b []byte, p api.Piece) api.Errno {
	t.Helper()
	got, e := solid.Cut(b, p)
	var want []byte
	f := api.OK
	switch {
	case p.From < 0 || p.Len < 0 || p.From > len(b) || p.Len > len(b) || p.From+p.Len > len(b):
		f = api.ErrArg
	case crc32.ChecksumIEEE(b[p.From:p.From+p.Len]) != p.Sum:
		f = api.ErrSum
	default:
		want = b[p.From : p.From+p.Len]
	}
	if !bytes.Equal(got, want) || e != f {
		t.Fatalf("%.99v, %v: got %.99v, %d, want %.99v, %d", b, p, got, e, want, f)
	}
	return e
}

// P15.3: each place, and length, in and beyond texts of few octets, with a right sum, and with others: ErrArg is ahead of ErrSum.
func TestCut(t *testing.T) {
	for n := range 20 {
		b := octets(14, n, 256)
		for from := -3; from <= n+3; from++ {
			for long := -3; long <= n+3; long++ {
				var sum uint32
				if from >= 0 && long >= 0 && from+long <= n {
					sum = crc32.ChecksumIEEE(b[from : from+long])
				}
				cuts(t, b, api.Piece{From: from, Len: long, Sum: sum})
				for k := range 32 {
					cuts(t, b, api.Piece{From: from, Len: long, Sum: sum ^ 1<<k})
				}
			}
		}
	}
}

// P15.3: ErrArg at the ends of ints, also where both together go beyond them.
func TestCutEnds(t *testing.T) {
	ends := []int{math.MinInt, math.MinInt + 1, math.MinInt32, -1 << 16, -1, 0, 1, 4, 5, 6, 1 << 16, 1<<16 + 1, math.MaxInt32, 1 << 32, math.MaxInt - 5, math.MaxInt - 1, math.MaxInt}
	for _, b := range [][]byte{nil, {}, []byte("tansy"), make([]byte, api.MaxText)} {
		for _, from := range ends {
			for _, long := range ends {
				for _, sum := range []uint32{0, 1, crc32.ChecksumIEEE(b), math.MaxUint32} {
					e := cuts(t, b, api.Piece{From: from, Len: long, Sum: sum})
					if (from < 0 || long < 0) && e != api.ErrArg {
						t.Errorf("%d, %d: got %d", from, long, e)
					}
				}
			}
		}
	}
}

// P15.3: no octets are cut out at each place up to the end, behind the last octet too, if their sum is 0; of texts longer than MaxText is cut like of others.
func TestCutNone(t *testing.T) {
	b := octets(15, 1<<17+1, 256)
	for _, from := range []int{0, 1, 65535, 65536, 65537, 1 << 17, 1<<17 + 1} {
		if e := cuts(t, b, api.Piece{From: from}); e != api.OK {
			t.Errorf("%d: got %d", from, e)
		}
		if e := cuts(t, b, api.Piece{From: from, Sum: 1}); e != api.ErrSum {
			t.Errorf("%d: got %d", from, e)
		}
	}
	if e := cuts(t, b, api.Piece{From: 1<<17 + 2}); e != api.ErrArg {
		t.Errorf("got %d", e)
	}
	if e := cuts(t, b, api.Piece{From: 0, Len: len(b), Sum: crc32.ChecksumIEEE(b)}); e != api.OK {
		t.Errorf("got %d", e)
	}
}

// P15.3: Open's error comes first, whatever the pieces are; then that of the first piece that has one.
func TestTest(t *testing.T) {
	r := api.Ring{Key: few, Next: 5}
	l := [][]byte{[]byte("ab"), nil, []byte("c"), []byte("an archive")}
	b, at, _, e := solid.Build(r, l)
	if e != api.OK {
		t.Fatalf("got %d", e)
	}
	good, args, sum := at[0], api.Piece{From: 0, Len: 14}, api.Piece{From: 0, Len: 2}
	for _, c := range []struct {
		l    []api.Piece
		want api.Errno
	}{
		{nil, api.OK}, {[]api.Piece{}, api.OK}, {at, api.OK}, {slices.Concat(at, at), api.OK}, {[]api.Piece{at[3], at[0]}, api.OK},
		{[]api.Piece{args}, api.ErrArg}, {[]api.Piece{sum}, api.ErrSum}, {[]api.Piece{args, sum}, api.ErrArg}, {[]api.Piece{sum, args}, api.ErrSum},
		{[]api.Piece{good, args, sum}, api.ErrArg}, {[]api.Piece{good, sum, good, args}, api.ErrSum},
		{append(slices.Clone(at), args), api.ErrArg}, {append(slices.Clone(at), sum), api.ErrSum},
	} {
		if e := solid.Test(few, b, c.l); e != c.want {
			t.Errorf("%v: got %d, want %d", c.l, e, c.want)
		}
		for _, no := range []struct {
			key  api.Words
			b    []byte
			want api.Errno
		}{
			{most, b, api.ErrTag}, {few, b[:len(b)-1], api.ErrSum}, {few, nil, api.ErrForm}, {few, make([]byte, api.MaxBlock+1), api.ErrLong},
			{few, summed(make([]byte, api.MaxBlock-4)), api.ErrLong}, {few, summed(boxed(t, few, 1, nil)), api.ErrForm},
		} {
			if e := solid.Test(no.key, no.b, c.l); e != no.want {
				t.Errorf("%d octets, %v: got %d, want %d", len(no.b), c.l, e, no.want)
			}
		}
	}
}

// P15.3: lists of pieces by chance are told as Open, and Cut of each of them, tell.
func TestTestChance(t *testing.T) {
	x := rand.New(rand.NewPCG(16, 15))
	for range 500 {
		l := make([][]byte, 1+x.IntN(6))
		for i := range l {
			l[i] = octets(x.Int(), x.IntN(9), 256)
		}
		b, at, _, _ := solid.Build(api.Ring{Key: most, Next: 3}, l)
		for range x.IntN(3) {
			p := &at[x.IntN(len(at))]
			switch x.IntN(3) {
			case 0:
				p.From += x.IntN(5) - 2
			case 1:
				p.Len += x.IntN(5) - 2
			case 2:
				p.Sum ^= 1 << x.IntN(32)
			}
		}
		text, _ := solid.Open(most, b)
		want := api.OK
		for _, p := range at {
			if want == api.OK {
				want = cuts(t, text, p)
			}
		}
		if e := solid.Test(most, b, at); e != want {
			t.Fatalf("%v: got %d, want %d", at, e, want)
		}
	}
}

// P15.4: what was built is opened with its key, and each text is cut out, block behind block of one ring.
func TestBuiltAndCut(t *testing.T) {
	x := rand.New(rand.NewPCG(17, 15))
	r := api.Ring{Key: api.Words{9, 8, 7, 6}, Next: math.MaxUint64 - 200}
	seen := map[string]bool{}
	for range 200 {
		l := make([][]byte, x.IntN(30))
		for i := range l {
			l[i] = octets(x.Int(), x.IntN(1+x.IntN(500)), 1+x.IntN(256))
		}
		b, at, behind, e := solid.Build(r, l)
		all, f := solid.Open(r.Key, b)
		if e != api.OK || f != api.OK || len(at) != len(l) || solid.Test(r.Key, b, at) != api.OK || seen[string(b)] || len(b) > api.MaxBlock {
			t.Fatalf("%v: got %d, %d, %v", l, e, f, at)
		}
		for i, p := range at {
			if text, e := solid.Cut(all, p); !bytes.Equal(text, l[i]) || e != api.OK {
				t.Fatalf("%v: got %v, %d", l[i], text, e)
			}
		}
		seen[string(b)] = true
		r = behind
	}
	unbuilt(t, r, nil, api.ErrFull)
}
