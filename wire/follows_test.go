package wire_test

import (
	"bytes"
	"math/rand/v2"
	"slices"
	"testing"

	"tansy/api"
	"tansy/table"
	"tansy/wire"
)

// P14.3: all texts of up to two octets, and all of three that begin like a table's, are read as the words have it: just two octets 0 are.
func TestFewOctets(t *testing.T) {
	hold(t, nil)
	for a := range 256 {
		hold(t, []byte{byte(a)})
		for b := range 256 {
			hold(t, []byte{byte(a), byte(b)})
			hold(t, []byte{byte(a), 0, byte(b)})
			if _, e := wire.From([]byte{byte(a), byte(b)}); (e == api.OK) != (a == 0 && b == 0) {
				t.Errorf("%d, %d: got %d", a, b, e)
			}
		}
	}
}

// P14.3: octets by chance do not make it go astray, of any length, also if they tell of more files, or of longer names, than there are.
func TestChance(t *testing.T) {
	x := rand.New(rand.NewPCG(11, 14))
	for range 20000 {
		b := make([]byte, x.IntN(200))
		few := 1 + x.IntN(256)
		for i := range b {
			b[i] = byte(x.IntN(few))
		}
		hold(t, b)
		if len(b) >= 2 {
			b[0], b[1] = byte(x.IntN(4)), 0
			hold(t, b)
		}
	}
	for range 200 {
		b := make([]byte, x.IntN(66000))
		for i := range b {
			b[i] = byte(x.IntN(4))
		}
		hold(t, b)
	}
	for _, o := range []byte{0, 1, 2, 21, 22, 'a', 127, 128, 255} {
		for _, n := range []int{1, 2, 21, 22, 23, 24, 255, 256, 5000, 65535, 65536, 65537} {
			hold(t, bytes.Repeat([]byte{o}, n))
		}
	}
}

// P14.3: texts of tables with some octets others, taken out, or put in, are read as the words have it, and what is read is written as it was.
func TestChanged(t *testing.T) {
	x := rand.New(rand.NewPCG(12, 14))
	for range 20000 {
		b := all(rows(x, x.IntN(6)))
		for range 1 + x.IntN(3) {
			at := x.IntN(len(b))
			switch x.IntN(5) {
			case 0:
				b[at] ^= 1 << x.IntN(8)
			case 1:
				b[at] = byte(x.Uint32())
			case 2:
				b = slices.Insert(b, at, byte(x.Uint32()))
			case 3:
				b = slices.Delete(b, at, min(len(b), at+1+x.IntN(22)))
			case 4:
				b = slices.Concat(b, b[at:])
			}
			if len(b) == 0 {
				break
			}
		}
		hold(t, b)
	}
}

// P14.3: texts of files stand for themselves: of a table that is put together file by file the text is put together, too, and no two tables have one text.
func TestTogether(t *testing.T) {
	x := rand.New(rand.NewPCG(13, 14))
	texts := map[string][]api.File{}
	for range 2000 {
		var l []api.File
		for _, p := range []string{"a", "a/b", "a-", "ab", "b"} {
			if x.IntN(2) == 0 {
				l, _ = table.Put(l, entry(x, p))
			}
		}
		b, e := wire.Bytes(l)
		if e != api.OK || !bytes.Equal(b, all(l)) {
			t.Fatalf("%v: got %v, %d", l, b, e)
		}
		if other, there := texts[string(b)]; there && !table.Same(other, l) {
			t.Fatalf("%v and %v are both %v", l, other, b)
		}
		texts[string(b)] = l
		got, e := wire.From(b)
		if e != api.OK || !table.Same(got, l) || table.Check(got) != api.OK {
			t.Fatalf("%v: got %v, %d", l, got, e)
		}
	}
}
