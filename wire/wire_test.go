package wire_test

import (
	"bytes"
	"encoding/binary"
	"math"
	"math/rand/v2"
	"slices"
	"strings"
	"testing"

	"tansy/api"
	"tansy/table"
	"tansy/wire"
)

// text is a file's text, part by part as the words have it: its parts are numbers of four or of eight octets first, of which those that count are kept.
func text(f api.File) []byte {
	four := func(n uint64, keep int) []byte { return binary.LittleEndian.AppendUint32(nil, uint32(n))[:keep] }
	return slices.Concat(
		[]byte{byte(len(f.Name))}, []byte(f.Name),
		binary.LittleEndian.AppendUint64(nil, key(f.Rank)),
		four(uint64(f.Sum), 4), four(uint64(f.Blk), 2), four(uint64(f.From), 3), four(uint64(f.Len), 3))
}

// all is a list's text: how many there are, and their texts.
func all(l []api.File) []byte {
	b := []byte{byte(len(l) % 256), byte(len(l) / 256)}
	for _, f := range l {
		b = append(b, text(f)...)
	}
	return b
}

// key is a rank's key.
func key(f float64) uint64 {
	bits := math.Float64bits(f)
	switch {
	case f != f:
		return 1<<64 - 1
	case bits>>63 == 0:
		return bits | 1<<63
	}
	return ^bits
}

// ranks are numbers of all ends, and what is no number, by several bits.
func ranks() []float64 {
	l := []float64{math.NaN(), math.Float64frombits(1<<64 - 1), math.Float64frombits(0x7FF0000000000001), math.Float64frombits(0xFFF8000000000000)}
	for _, f := range []float64{0, 0x1p-1074, 0x1p-1022, 1, 1.5, math.Pi, 1e100, math.MaxFloat64, math.Inf(1)} {
		l = append(l, f, math.Copysign(f, -1))
	}
	return l
}

// entry is a file of that name that may be, whose other parts are by chance, at their edges now and then.
func entry(x *rand.Rand, p string) api.File {
	near := func(most int) int {
		at := []int{0, 1, 255, 256, 65535, most - 1, most, x.IntN(most + 1)}
		return max(0, min(most, at[x.IntN(len(at))]))
	}
	f := api.File{Name: p, Rank: math.Float64frombits(x.Uint64()), Sum: x.Uint32(), Blk: near(8192), From: near(65536)}
	if x.IntN(2) == 0 {
		f.Rank = ranks()[x.IntN(len(ranks()))]
	}
	f.Len = near(65536 - f.From)
	return f
}

// rows is a table of so many files, whose names are of 3 to 96 octets.
func rows(x *rand.Rand, n int) []api.File {
	var l []api.File
	for i := range n {
		p := string([]byte{byte('a' + i/26/26), byte('a' + i/26%26), byte('a' + i%26)})
		if x.IntN(3) == 0 {
			p += strings.Repeat("/b", x.IntN(47))
		}
		l = append(l, entry(x, p))
	}
	return l
}

// same tells whether two lists have the same files, ranks by their keys.
func same(a, b []api.File) bool {
	return slices.EqualFunc(a, b, func(a, b api.File) bool {
		k := key(a.Rank) == key(b.Rank)
		a.Rank, b.Rank = 0, 0
		return k && a == b
	})
}

// edges are files that may be, each with one part at an edge.
func edges() []api.File {
	l := []api.File{
		{Name: "a"}, {Name: "~"}, {Name: "!/~"}, {Name: strings.Repeat("a", 96)}, {Name: strings.Repeat("a", 95)}, {Name: strings.Repeat("a/", 47) + "ab"},
		{Name: "a", From: 1, Len: 65535}, {Name: "a", From: 65535, Len: 1}, {Name: "a", From: 256, Len: 65280},
	}
	for _, n := range []uint32{1, 255, 256, 65535, 65536, 1<<24 - 1, 1 << 24, 1<<31 - 1, 1 << 31, 1<<32 - 1} {
		l = append(l, api.File{Name: "a", Sum: n})
	}
	for _, n := range []int{1, 255, 256, 257, 4095, 4096, 8191, 8192} {
		l = append(l, api.File{Name: "a", Blk: n})
	}
	for _, n := range []int{1, 255, 256, 257, 65280, 65535, 65536} {
		l = append(l, api.File{Name: "a", From: n}, api.File{Name: "a", Len: n})
	}
	for _, f := range ranks() {
		l = append(l, api.File{Name: "a", Rank: f})
	}
	return l
}

// mayNot are files that may not be: by their names, and by each other part.
func mayNot() []api.File {
	l := []api.File{{}, {Blk: 1}}
	for _, p := range []string{"/", "/a", "a/", "a//b", ".", "..", "a/..", "./a", "a b", "a\x00", "\x7f", "\x80", "ä", strings.Repeat("a", 97), strings.Repeat("a", 255), strings.Repeat("a", 256), strings.Repeat("a", 257), strings.Repeat("a", 1<<16)} {
		l = append(l, api.File{Name: p, Rank: 1, Len: 5})
	}
	for _, n := range []int{-1, 8193, 65535, 65536, 65537, 1 << 32, math.MinInt, math.MaxInt} {
		l = append(l, api.File{Name: "a", Blk: n})
	}
	for _, c := range [][2]int{{-1, 0}, {0, -1}, {0, 65537}, {1, 65536}, {65536, 1}, {65537, 0}, {65537, -1}, {32768, 32769}, {1 << 24, 0}, {0, 1 << 24}, {math.MinInt, 0}, {0, math.MinInt}, {math.MaxInt, 0}, {0, math.MaxInt}, {math.MaxInt, math.MaxInt}, {math.MinInt, math.MinInt}} {
		l = append(l, api.File{Name: "a", From: c[0], Len: c[1]})
	}
	return l
}

// noTables are lists that are no tables: files in another order, twice, too many, or such as may not be, at each place.
func noTables() [][]api.File {
	x := rand.New(rand.NewPCG(1, 14))
	a, b, c := entry(x, "a"), entry(x, "b"), entry(x, "c")
	l := [][]api.File{
		{b, a}, {a, a}, {a, b, b}, {a, a, b}, {a, c, b}, {b, a, c}, {c, b, a}, {a, b, a},
		{entry(x, "a/b"), entry(x, "a")}, {entry(x, "a-"), entry(x, "a/b")}, {entry(x, "a/b-"), entry(x, "a/b/c")},
		rows(x, 257), rows(x, 258), rows(x, 1000), slices.Repeat([]api.File{a}, 256), slices.Repeat([]api.File{a}, 65536), slices.Repeat([]api.File{a}, 65537),
	}
	for _, f := range mayNot() {
		l = append(l, []api.File{f}, []api.File{f, c}, []api.File{a, f}, []api.File{a, f, c})
	}
	for _, at := range []int{0, 1, 128, 254, 255} {
		twice, bad := rows(x, 256), rows(x, 256)
		twice[at].Name = twice[(at+1)%256].Name
		bad[at].Blk = -1
		l = append(l, twice, bad)
	}
	return l
}

// P14.1: a file's text is what stands here, octet by octet.
func TestOneKnown(t *testing.T) {
	for _, c := range []struct {
		f    api.File
		want []byte
	}{
		{api.File{Name: "a"}, []byte{1, 'a', 0, 0, 0, 0, 0, 0, 0, 128, 0, 0, 0, 0, 0, 0, 0, 0, 0, 0, 0, 0}},
		{api.File{Name: "a/b", Rank: 1, Sum: 0x04030201, Blk: 0x0605, From: 0x0807, Len: 0x0A09}, []byte{3, 'a', '/', 'b', 0, 0, 0, 0, 0, 0, 0xF0, 0xBF, 1, 2, 3, 4, 5, 6, 7, 8, 0, 9, 10, 0}},
		{api.File{Name: "b", Rank: -1, Sum: 1 << 31, Blk: 8192, From: 65536}, []byte{1, 'b', 255, 255, 255, 255, 255, 255, 0x0F, 0x40, 0, 0, 0, 128, 0, 32, 0, 0, 1, 0, 0, 0}},
		{api.File{Name: "c", Rank: math.Copysign(0, -1), Len: 65536}, []byte{1, 'c', 255, 255, 255, 255, 255, 255, 255, 127, 0, 0, 0, 0, 0, 0, 0, 0, 0, 0, 0, 1}},
		{api.File{Name: "d", Rank: math.NaN(), Sum: 255}, []byte{1, 'd', 255, 255, 255, 255, 255, 255, 255, 255, 255, 0, 0, 0, 0, 0, 0, 0, 0, 0, 0, 0}},
		{api.File{Name: "e", Rank: math.Inf(1), Sum: 256, Blk: 256}, []byte{1, 'e', 0, 0, 0, 0, 0, 0, 0xF0, 255, 0, 1, 0, 0, 0, 1, 0, 0, 0, 0, 0, 0}},
		{api.File{Name: "f", Rank: math.Inf(-1)}, []byte{1, 'f', 255, 255, 255, 255, 255, 255, 0x0F, 0, 0, 0, 0, 0, 0, 0, 0, 0, 0, 0, 0, 0}},
	} {
		if got, e := wire.One(c.f); !bytes.Equal(got, c.want) || e != api.OK {
			t.Errorf("%v: got %v, %d, want %v", c.f, got, e, c.want)
		}
	}
}

// P14.1: One is a file's text, with each part at each edge, names of each length, and files by chance.
func TestOne(t *testing.T) {
	l := edges()
	x := rand.New(rand.NewPCG(2, 14))
	for n := range 96 {
		l = append(l, entry(x, strings.Repeat("~", n+1)))
	}
	for range 10000 {
		l = append(l, entry(x, rows(x, 1)[0].Name))
	}
	for _, f := range l {
		if got, e := wire.One(f); !bytes.Equal(got, text(f)) || e != api.OK {
			t.Fatalf("%v: got %v, %d, want %v", f, got, e, text(f))
		}
	}
}

// P14.1: no files are two octets 0, and all other tables how many there are, and their texts, up to MaxFiles.
func TestBytes(t *testing.T) {
	for _, l := range [][]api.File{nil, {}} {
		if got, e := wire.Bytes(l); !bytes.Equal(got, []byte{0, 0}) || e != api.OK {
			t.Errorf("got %v, %d", got, e)
		}
	}
	x := rand.New(rand.NewPCG(3, 14))
	for n := range 257 {
		l := rows(x, n)
		if got, e := wire.Bytes(l); !bytes.Equal(got, all(l)) || e != api.OK {
			t.Fatalf("%d files: got %d octets, %d", n, len(got), e)
		}
	}
	for _, f := range edges() {
		if got, e := wire.Bytes([]api.File{f}); !bytes.Equal(got, all([]api.File{f})) || e != api.OK {
			t.Fatalf("%v: got %v, %d", f, got, e)
		}
	}
	l := rows(x, 256)
	got, _ := wire.Bytes(l)
	if got[0] != 0 || got[1] != 1 {
		t.Errorf("256 files are told by %v", got[:2])
	}
	one, _ := wire.One(l[0])
	if !bytes.HasPrefix(got[2:], one) {
		t.Errorf("got %v, and not %v behind the count", got[:99], one)
	}
}

// P14.1: Long is how many octets there are: 2, and 21 for each file, and those of all names.
func TestLong(t *testing.T) {
	x := rand.New(rand.NewPCG(4, 14))
	for n := range 257 {
		l := rows(x, n)
		var names string
		for _, f := range l {
			names += f.Name
		}
		got, e := wire.Long(l)
		b, _ := wire.Bytes(l)
		if got != 2+21*n+len(names) || got != len(b) || e != api.OK {
			t.Fatalf("%d files: got %d, %d", n, got, e)
		}
	}
	// The longest text of all.
	l := rows(x, 256)
	for i := range l {
		l[i].Name = l[i].Name[:3] + strings.Repeat("z", 93)
	}
	b, _ := wire.Bytes(l)
	if got, e := wire.Long(l); got != 29954 || len(b) != 29954 || e != api.OK {
		t.Errorf("got %d, %d", got, e)
	}
	for _, l := range [][]api.File{nil, {}} {
		if got, e := wire.Long(l); got != 2 || e != api.OK {
			t.Errorf("got %d, %d", got, e)
		}
	}
}

// P14.1: ErrArg, and nothing else, of a file that may not be, and of what is no table.
func TestArg(t *testing.T) {
	for _, f := range mayNot() {
		if got, e := wire.One(f); len(got) != 0 || e != api.ErrArg {
			t.Errorf("%.50v: got %v, %d", f, got, e)
		}
	}
	for _, l := range noTables() {
		if got, e := wire.Bytes(l); len(got) != 0 || e != api.ErrArg {
			t.Errorf("%.3v: got %v, %d", l, got, e)
		}
		if got, e := wire.Long(l); got != 0 || e != api.ErrArg {
			t.Errorf("%.3v: got %d, %d", l, got, e)
		}
		if table.Check(l) != api.ErrArg {
			t.Errorf("%.3v is a table", l)
		}
	}
}
