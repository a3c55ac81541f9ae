package wire_test

import (
	"bytes"
	"math"
	"math/rand/v2"
	"slices"
	"strings"
	"sync"
	"testing"
	"unsafe"

	"tansy/api"
	"tansy/wire"
)

// lend is a list whose names stand in memory of the caller's, and that memory.
func lend(l []api.File) ([]api.File, [][]byte) {
	l = slices.Clone(l)
	var memory [][]byte
	for i, f := range l {
		b := []byte(f.Name)
		memory = append(memory, b)
		l[i].Name = unsafe.String(unsafe.SliceData(b), len(b))
	}
	return l, memory
}

// keep is a list whose names stand in memory of their own.
func keep(l []api.File) []api.File {
	l = slices.Clone(l)
	for i := range l {
		l[i].Name = strings.Clone(l[i].Name)
	}
	return l
}

// scribble writes into octets, and into the room behind them.
func scribble(b []byte) {
	b = b[:cap(b)]
	for i := range b {
		b[i] ^= 0x5A
	}
}

// R2: the list that is written is as it was, and what is answered stays, whoever writes into that list, into its names, or into another answer.
func TestOwnWritten(t *testing.T) {
	x := rand.New(rand.NewPCG(14, 14))
	for _, n := range []int{0, 1, 2, 30, 256} {
		was := rows(x, n)
		l, memory := lend(was)
		got, _ := wire.Bytes(l)
		other, _ := wire.Bytes(l)
		var ones [][]byte
		for _, f := range l {
			b, _ := wire.One(f)
			another, _ := wire.One(f)
			scribble(another)
			ones = append(ones, b)
		}
		scribble(other)
		if !same(l, was) {
			t.Fatalf("%v was handed in", l)
		}
		for i := range l {
			l[i] = api.File{Name: "//", Blk: -1}
			scribble(memory[i])
		}
		if !bytes.Equal(got, all(was)) {
			t.Fatalf("%d files: got %v", n, got)
		}
		for i, b := range ones {
			if !bytes.Equal(b, text(was[i])) {
				t.Fatalf("%v: got %v", was[i], b)
			}
		}
	}
}

// R2: the octets that are read are as they were, and what is answered stays, its names too, whoever writes into those octets, or into another answer.
func TestOwnRead(t *testing.T) {
	x := rand.New(rand.NewPCG(15, 14))
	for _, n := range []int{0, 1, 2, 30, 256} {
		want := rows(x, n)
		room := append(all(want), "behind"...)
		b := room[:len(room)-6]
		got, e := wire.From(b)
		other, _ := wire.From(b)
		if !bytes.Equal(b, all(want)) || string(room[len(b):]) != "behind" {
			t.Fatalf("%v was handed in", room)
		}
		_ = append(other, api.File{Name: "z"})
		for i := range other {
			other[i] = api.File{Name: "//"}
		}
		scribble(room)
		if !same(got, want) || e != api.OK {
			t.Fatalf("%d files: got %v, %d", n, got, e)
		}
	}
}

// R2: what ends with an error changes nothing either.
func TestOwnErrors(t *testing.T) {
	for _, l := range noTables() {
		was := keep(l)
		wire.Bytes(l)
		wire.Long(l)
		wire.One(l[0])
		if !same(l, was) {
			t.Fatalf("%.3v was handed in", was)
		}
		b := all(l)
		kept := bytes.Clone(b)
		wire.From(b)
		if !bytes.Equal(b, kept) {
			t.Fatalf("%.99v was handed in", kept)
		}
	}
}

// R1, R3: each call ends at all arguments, at none too, and a text of no octets is no text of a table, nil or empty.
func TestAnything(t *testing.T) {
	for _, b := range [][]byte{nil, {}, make([]byte, 4)[:0]} {
		if got, e := wire.From(b); len(got) != 0 || e != api.ErrForm {
			t.Errorf("got %v, %d", got, e)
		}
	}
	ends := []int{math.MinInt, math.MinInt + 1, -1, 0, 1, math.MaxInt - 1, math.MaxInt}
	for _, blk := range ends {
		for _, from := range ends {
			for _, long := range ends {
				f := api.File{Name: "a", Rank: math.NaN(), Sum: math.MaxUint32, Blk: blk, From: from, Len: long}
				may := (blk == 0 || blk == 1) && (from == 0 || from == 1) && (long == 0 || long == 1)
				b, e := wire.One(f)
				if may != (e == api.OK) || !may && (len(b) != 0 || e != api.ErrArg) {
					t.Errorf("%v: got %v, %d", f, b, e)
				}
			}
		}
	}
	many := slices.Repeat([]api.File{{Name: strings.Repeat("a", 1000)}}, 100000)
	if b, e := wire.Bytes(many); len(b) != 0 || e != api.ErrArg {
		t.Errorf("got %d octets, %d", len(b), e)
	}
	if n, e := wire.Long(many); n != 0 || e != api.ErrArg {
		t.Errorf("got %d, %d", n, e)
	}
}

// R5: asked again, behind calls that end with an error, and side by side with others, each call answers the same; nothing is kept.
func TestAgain(t *testing.T) {
	x := rand.New(rand.NewPCG(16, 14))
	lists := append(noTables()[:20], nil, rows(x, 1), rows(x, 40), rows(x, 256))
	var texts [][]byte
	for _, l := range lists {
		b := all(l)
		texts = append(texts, b, b[:len(b)-1], append(bytes.Clone(b), 0))
	}
	ask := func() ([][]byte, [][]api.File, []api.Errno) {
		var written [][]byte
		var read [][]api.File
		var errs []api.Errno
		for _, l := range lists {
			b, e := wire.Bytes(l)
			_, f := wire.Long(l)
			written, errs = append(written, b), append(errs, e, f)
		}
		for _, b := range texts {
			l, e := wire.From(b)
			read, errs = append(read, l), append(errs, e)
		}
		return written, read, errs
	}
	written, read, errs := ask()
	var side sync.WaitGroup
	for range 8 {
		side.Go(func() {
			for range 10 {
				w, r, e := ask()
				if !slices.EqualFunc(w, written, bytes.Equal) || !slices.EqualFunc(r, read, same) || !slices.Equal(e, errs) {
					t.Error("another answer")
				}
			}
		})
	}
	side.Wait()
}
