package wire_test

import (
	"bytes"
	"encoding/binary"
	"math"
	"math/rand/v2"
	"slices"
	"strings"
	"testing"

	"tansy/api"
	"tansy/table"
	"tansy/wire"
)

// read is the table of which b is the text, if it is that of one: the texts of files are cut out first, and each is read from its end.
func read(b []byte) ([]api.File, bool) {
	if len(b) < 2 {
		return nil, false
	}
	n, b := int(binary.LittleEndian.Uint16(b)), b[2:]
	var l []api.File
	for range n {
		if len(b) == 0 || len(b) < 21+int(b[0]) {
			return nil, false
		}
		long := 21 + int(b[0])
		f, ok := readOne(b[:long])
		if !ok {
			return nil, false
		}
		l, b = append(l, f), b[long:]
	}
	return l, len(b) == 0 && table.Check(l) == api.OK
}

// readOne is the file of which b is the text.
func readOne(b []byte) (api.File, bool) {
	end := func(from, to int) uint64 {
		var v uint64
		for _, o := range slices.Backward(b[len(b)-from : len(b)-to]) {
			v = v*256 + uint64(o)
		}
		return v
	}
	rank, ok := number(end(20, 12))
	return api.File{Name: string(b[1 : len(b)-20]), Rank: rank, Sum: uint32(end(12, 8)), Blk: int(end(8, 6)), From: int(end(6, 3)), Len: int(end(3, 0))}, ok
}

// number is the number of a key, if there is one.
func number(k uint64) (float64, bool) {
	if k == 1<<64-1 {
		return math.NaN(), true
	}
	for _, bits := range []uint64{k ^ 1<<63, ^k} {
		if f := math.Float64frombits(bits); f == f && key(f) == k {
			return f, true
		}
	}
	return 0, false
}

// hold holds what From tells of b against the words, and what is read against what is written.
func hold(t *testing.T, b []byte) {
	t.Helper()
	want, ok := read(b)
	got, e := wire.From(b)
	switch {
	case len(b) > 65536:
		if len(got) != 0 || e != api.ErrLong {
			t.Fatalf("%d octets: got %v, %d", len(b), got, e)
		}
	case !ok:
		if len(got) != 0 || e != api.ErrForm {
			t.Fatalf("%v: got %v, %d", b, got, e)
		}
	default:
		if !same(got, want) || e != api.OK {
			t.Fatalf("%v: got %v, %d, want %v", b, got, e, want)
		}
		if again, e := wire.Bytes(got); !bytes.Equal(again, b) || e != api.OK {
			t.Fatalf("%v: written again it is %v, %d", b, again, e)
		}
	}
}

// P14.2: what From tells is what stands here.
func TestFromKnown(t *testing.T) {
	if got, e := wire.From([]byte{0, 0}); len(got) != 0 || e != api.OK {
		t.Errorf("got %v, %d", got, e)
	}
	b := []byte{2, 0,
		1, 'a', 255, 255, 255, 255, 255, 255, 255, 255, 1, 2, 3, 4, 0, 32, 0, 0, 1, 0, 0, 0,
		3, 'a', '/', 'b', 0, 0, 0, 0, 0, 0, 0xF0, 0xBF, 255, 255, 255, 255, 5, 6, 7, 8, 0, 9, 10, 0}
	want := []api.File{{Name: "a", Rank: math.NaN(), Sum: 0x04030201, Blk: 8192, From: 65536}, {Name: "a/b", Rank: 1, Sum: math.MaxUint32, Blk: 0x0605, From: 0x0807, Len: 0x0A09}}
	got, e := wire.From(b)
	if !same(got, want) || e != api.OK {
		t.Fatalf("got %v, %d, want %v", got, e, want)
	}
	// What is no number is what rank.Of tells of its key.
	if math.Float64bits(got[0].Rank) != math.Float64bits(math.NaN()) {
		t.Errorf("what is no number has the bits %x", math.Float64bits(got[0].Rank))
	}
}

// P14.2, P14.3: what is written is read, at each edge, and of tables of each length.
func TestFrom(t *testing.T) {
	x := rand.New(rand.NewPCG(5, 14))
	for n := range 257 {
		l := rows(x, n)
		if got, e := wire.From(all(l)); !same(got, l) || e != api.OK {
			t.Fatalf("%d files: got %v, %d", n, got, e)
		}
		b, _ := wire.Bytes(l)
		hold(t, b)
	}
	for _, f := range edges() {
		if got, e := wire.From(all([]api.File{f})); !same(got, []api.File{f}) || e != api.OK {
			t.Fatalf("%v: got %v, %d", f, got, e)
		}
		for _, g := range []api.File{entry(x, "A"), entry(x, "~~")} {
			l := []api.File{f, g}
			if table.Check(l) != api.OK {
				l = []api.File{g, f}
			}
			b, _ := wire.Bytes(l)
			hold(t, b)
		}
	}
}

// P14.2: ErrLong above MaxText octets, and only there, whatever they are; there are none so long that are a table's text.
func TestFromLong(t *testing.T) {
	x := rand.New(rand.NewPCG(6, 14))
	for _, n := range []int{29953, 29954, 29955, 65535, 65536, 65537, 65538, 1 << 17, 1 << 20} {
		for _, ahead := range [][]byte{nil, {1}, {255, 255}, all(rows(x, 3)), all(rows(x, 256)), bytes.Repeat([]byte{255}, 100)} {
			b := make([]byte, n)
			copy(b, ahead)
			want := api.ErrForm
			if n > 65536 {
				want = api.ErrLong
			}
			if got, e := wire.From(b); len(got) != 0 || e != want {
				t.Errorf("%d octets: got %v, %d", n, got, e)
			}
		}
	}
	l := rows(x, 256)
	for i := range l {
		l[i].Name = l[i].Name[:3] + strings.Repeat("z", 93)
	}
	if got, e := wire.From(all(l)); !same(got, l) || e != api.OK {
		t.Errorf("the longest text: got %v, %d", got, e)
	}
}

// P14.2: ErrForm of texts cut at any place, and of those with any octets behind.
func TestFromCut(t *testing.T) {
	x := rand.New(rand.NewPCG(7, 14))
	for _, n := range []int{0, 1, 2, 3, 8, 255, 256} {
		b := all(rows(x, n))
		for at := range b {
			if got, e := wire.From(b[:at]); len(got) != 0 || e != api.ErrForm {
				t.Fatalf("%d of %d octets: got %v, %d", at, len(b), got, e)
			}
		}
		for _, behind := range [][]byte{{0}, {1}, {255}, {0, 0}, make([]byte, 21), make([]byte, 22), text(entry(x, "zzz")), b} {
			if got, e := wire.From(slices.Concat(b, behind)); len(got) != 0 || e != api.ErrForm {
				t.Fatalf("%d files, and %v behind: got %v, %d", n, behind, got, e)
			}
		}
	}
}

// P14.2: ErrForm of what is written like a table's text, of a list that is no table: in another order, with a name twice, or with a file too many.
func TestFromNoTable(t *testing.T) {
	for _, l := range noTables() {
		// A number that has no room in its octets may be told as another one there, so these are held against the words.
		hold(t, all(l))
	}
	x := rand.New(rand.NewPCG(8, 14))
	a, b, c := entry(x, "a"), entry(x, "a/b"), entry(x, "a-")
	for _, l := range [][]api.File{{b, a}, {c, b}, {a, c, b}, {a, a}, {a, b, b}, {a, b, c, a}} {
		if got, e := wire.From(all(l)); len(got) != 0 || e != api.ErrForm {
			t.Errorf("%v: got %v, %d", l, got, e)
		}
	}
	short := rows(x, 257)
	for i := range short {
		short[i].Name = short[i].Name[:3]
	}
	if got, e := wire.From(all(short)); len(got) != 0 || e != api.ErrForm {
		t.Errorf("one file too many: got %v, %d", got, e)
	}
	if got, e := wire.From(all(short[:256])); !same(got, short[:256]) || e != api.OK {
		t.Errorf("got %v, %d", got, e)
	}
}

// P14.2: ErrForm of each part that may not be, where the others may: numbers one above their edges, and names that are not clean.
func TestFromPart(t *testing.T) {
	for _, c := range []struct {
		name            string
		blk, from, long int
		ok              bool
	}{
		{"a", 8192, 65536, 0, true}, {"a", 8193, 0, 0, false}, {"a", 65535, 0, 0, false}, {"a", 0, 65537, 0, false}, {"a", 0, 1<<24 - 1, 0, false},
		{"a", 0, 0, 65536, true}, {"a", 0, 0, 65537, false}, {"a", 0, 65536, 1, false}, {"a", 0, 1, 65535, true}, {"a", 0, 1, 65536, false}, {"a", 0, 0, 1<<24 - 1, false}, {"a", 0, 1<<24 - 1, 1<<24 - 1, false},
		{strings.Repeat("a", 96), 0, 0, 0, true}, {strings.Repeat("a", 97), 0, 0, 0, false}, {strings.Repeat("a", 255), 0, 0, 0, false}, {"", 0, 0, 0, false}, {"a/", 0, 0, 0, false}, {"a\xff", 0, 0, 0, false}, {"..", 0, 0, 0, false},
	} {
		f := api.File{Name: c.name, Rank: 2, Sum: 7, Blk: c.blk, From: c.from, Len: c.long}
		got, e := wire.From(all([]api.File{f}))
		if c.ok && (!same(got, []api.File{f}) || e != api.OK) || !c.ok && (len(got) != 0 || e != api.ErrForm) {
			t.Errorf("%v: got %v, %d", c, got, e)
		}
	}
}

// P14.2: ErrForm of keys that no number has: those beyond both infinities, but for what is no number.
func TestFromKey(t *testing.T) {
	x := rand.New(rand.NewPCG(9, 14))
	least, greatest := key(math.Inf(-1)), key(math.Inf(1))
	keys := []uint64{0, 1, least - 1, least, least + 1, 1<<63 - 1, 1 << 63, 1<<63 + 1, greatest - 1, greatest, greatest + 1, 1<<64 - 2, 1<<64 - 1}
	for range 1000 {
		keys = append(keys, x.Uint64(), x.Uint64N(least), greatest+1+x.Uint64N(1<<64-1-greatest))
	}
	for _, k := range keys {
		b := all([]api.File{{Name: "abc", Blk: 1}})
		binary.LittleEndian.PutUint64(b[6:], k)
		got, e := wire.From(b)
		may := k >= least && k <= greatest || k == 1<<64-1
		if may != (e == api.OK) || !may && (len(got) != 0 || e != api.ErrForm) || may && key(got[0].Rank) != k {
			t.Errorf("%x: got %v, %d", k, got, e)
		}
	}
}

// P14.2: ErrForm of each count but that of the files: of all up to 600, and of some up to the greatest one.
func TestFromCount(t *testing.T) {
	x := rand.New(rand.NewPCG(17, 14))
	for _, n := range []int{0, 1, 2, 255, 256} {
		b := all(rows(x, n))
		for count := range 65536 {
			if count > 600 && count%255 != 0 {
				continue
			}
			binary.LittleEndian.PutUint16(b, uint16(count))
			got, e := wire.From(b)
			if count == n && (len(got) != n || e != api.OK) || count != n && (len(got) != 0 || e != api.ErrForm) {
				t.Fatalf("%d files, told as %d: got %v, %d", n, count, got, e)
			}
		}
	}
}

// P14.2: a name is told by its own octet, and a table by its count, and by nothing else: with each octet any other one a text is read as the words have it.
func TestFromEachOctet(t *testing.T) {
	x := rand.New(rand.NewPCG(10, 14))
	passed := 0
	for _, n := range []int{0, 1, 2, 3, 4} {
		b := all(rows(x, n))
		for at := range b {
			was := b[at]
			for o := range 256 {
				b[at] = byte(o)
				hold(t, b)
				if _, e := wire.From(b); e == api.OK {
					passed++
				}
			}
			b[at] = was
		}
	}
	if passed < 1000 {
		t.Errorf("only %d were read", passed)
	}
}
