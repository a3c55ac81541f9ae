package solid_test

import (
	"bytes"
	"math"
	"slices"
	"sync"
	"testing"

	"tansy/api"
	"tansy/solid"
)

// scribble writes into octets, and into the room behind them.
func scribble(b []byte) {
	b = b[:cap(b)]
	for i := range b {
		b[i] ^= 0x5A
	}
}

// scrawl writes into pieces, and into the room behind them.
func scrawl(l []api.Piece) {
	l = l[:cap(l)]
	for i := range l {
		l[i] = api.Piece{From: -7, Len: l[i].Len + 1, Sum: ^l[i].Sum}
	}
}

// lent is b, with room behind it, and all of that memory.
func lent(b []byte) ([]byte, []byte) {
	all := append(bytes.Clone(b), "behind it"...)
	return all[:len(b)], all
}

// R2: a text that is sealed, or a block that is opened, is as it was, with the room behind it; what is answered stays, whoever writes into these, or into another answer.
func TestOwnTexts(t *testing.T) {
	r := api.Ring{Key: few, Next: 5}
	for _, n := range []int{0, 1, 5, 100, 1000, 20000} {
		want := octets(20, n, 50)
		text, memory := lent(want)
		got, _, _ := solid.Seal(r, text)
		other, _, _ := solid.Seal(r, text)
		if !bytes.Equal(memory, append(bytes.Clone(want), "behind it"...)) {
			t.Fatalf("%.99v was handed in", memory)
		}
		scribble(memory)
		scribble(other)
		if !bytes.Equal(got, block(t, r, want)) {
			t.Errorf("%d octets: got another block", n)
		}
		sealed, memory := lent(got)
		opened, _ := solid.Open(few, sealed)
		another, _ := solid.Open(few, sealed)
		solid.Test(few, sealed, []api.Piece{{From: 1, Len: 2}})
		if !bytes.Equal(memory, append(bytes.Clone(got), "behind it"...)) {
			t.Fatalf("%.99v was handed in", memory)
		}
		scribble(memory)
		scribble(another)
		scribble(got)
		if !bytes.Equal(opened, want) {
			t.Errorf("%d octets: got another text", n)
		}
	}
}

// R2: the texts that are built, and their list, are as they were; the block and the pieces stay, whoever writes into these, or into another answer.
func TestOwnBuilt(t *testing.T) {
	r := api.Ring{Key: few, Next: 5}
	for _, lengths := range [][]int{nil, {0}, {9}, {3, 0, 4}, {100, 200, 0, 300}} {
		var want, l, memory [][]byte
		for i, n := range lengths {
			text := octets(21+i, n, 50)
			b, m := lent(text)
			want, l, memory = append(want, text), append(l, b), append(memory, m)
		}
		// A list of one text more, of which one less is handed in: what stands behind it is the caller's, too.
		room := append(l, []byte("another one"))
		got, at, _, e := solid.Build(r, room[:len(l)])
		other, places, _, _ := solid.Build(r, room[:len(l)])
		for i, m := range memory {
			if !bytes.Equal(l[i], want[i]) || string(m[len(want[i]):]) != "behind it" {
				t.Fatalf("%v was handed in", m)
			}
			scribble(m)
		}
		if string(room[len(l)]) != "another one" {
			t.Fatalf("%v was behind what was handed in", room[len(l)])
		}
		clear(room)
		scribble(other)
		scrawl(places)
		if !bytes.Equal(got, block(t, r, slices.Concat(want...))) || !slices.Equal(at, standing(want)) || e != api.OK {
			t.Errorf("%v: got %v, %v, %d", lengths, got, at, e)
		}
	}
}

// R2: of what is cut neither the text, nor the pieces, change, and what is cut out stays, whoever writes into the text, or into another answer.
func TestOwnCut(t *testing.T) {
	whole := octets(30, 50, 256)
	for n := range 51 {
		p := standing([][]byte{whole[:n/2], whole[n/2 : n]})[1]
		b, memory := lent(whole)
		got, e := solid.Cut(b, p)
		other, _ := solid.Cut(b, p)
		scribble(other)
		_ = append(other, "more"...)
		if !bytes.Equal(b, whole) || string(memory[50:]) != "behind it" {
			t.Fatalf("%v was handed in", memory)
		}
		_ = append(got, "more"...)
		scribble(memory)
		if !bytes.Equal(got, whole[n/2:n]) || e != api.OK {
			t.Errorf("%v: got %v, %d", p, got, e)
		}
	}
	l := []api.Piece{{From: 0, Len: 2, Sum: 1}, {From: 2, Len: 1}}
	kept := slices.Clone(l)
	solid.Test(few, block(t, api.Ring{Key: few}, whole), l)
	if !slices.Equal(l, kept) {
		t.Errorf("%v was handed in", l)
	}
}

// R2: what ends with an error changes nothing either.
func TestOwnErrors(t *testing.T) {
	full := api.Ring{Key: few, Next: math.MaxUint64}
	for _, want := range [][]byte{octets(31, 3, 256), octets(32, 30, 256), summed(octets(33, 9, 256)), summed(octets(34, 60, 256)), summed(boxed(t, few, 5, octets(35, 60, 256))), octets(36, 1<<17+1, 256)} {
		b, memory := lent(want)
		solid.Seal(full, b)
		solid.Build(full, [][]byte{b, b})
		solid.Open(few, b)
		solid.Cut(b, api.Piece{From: 1, Len: 1})
		solid.Cut(b, api.Piece{From: 1, Len: len(b)})
		solid.Test(few, b, nil)
		if !bytes.Equal(b, want) || string(memory[len(b):]) != "behind it" {
			t.Fatalf("%.99v was handed in", memory)
		}
	}
}

// R3: no octets, and an empty list of them, are the same, and so are no texts, and an empty list of them.
func TestNothing(t *testing.T) {
	r := api.Ring{Key: most, Next: 5}
	want := block(t, r, nil)
	for _, none := range [][]byte{nil, {}, octets(37, 9, 9)[:0], octets(37, 9, 9)[9:]} {
		if b, _, e := solid.Seal(r, none); !bytes.Equal(b, want) || e != api.OK {
			t.Errorf("got %v, %d", b, e)
		}
		if text, e := solid.Open(most, none); len(text) != 0 || e != api.ErrForm {
			t.Errorf("got %v, %d", text, e)
		}
		if text, e := solid.Cut(none, api.Piece{}); len(text) != 0 || e != api.OK {
			t.Errorf("got %v, %d", text, e)
		}
		if b, at, _, e := solid.Build(r, [][]byte{none}); !bytes.Equal(b, want) || !slices.Equal(at, []api.Piece{{}}) || e != api.OK {
			t.Errorf("got %v, %v, %d", b, at, e)
		}
	}
	for _, l := range [][][]byte{nil, {}} {
		if b, at, _, e := solid.Build(r, l); !bytes.Equal(b, want) || len(at) != 0 || e != api.OK {
			t.Errorf("got %v, %v, %d", b, at, e)
		}
	}
	for _, l := range [][]api.Piece{nil, {}} {
		if e := solid.Test(most, want, l); e != api.OK {
			t.Errorf("got %d", e)
		}
	}
}

// R1, R5: asked again, behind calls that end with an error, and side by side with others, each call answers the same; nothing is kept.
func TestAgain(t *testing.T) {
	r := api.Ring{Key: few, Next: 5}
	l := [][]byte{[]byte("ab"), octets(38, 300, 20), nil, []byte("c")}
	want := block(t, r, slices.Concat(l...))
	var side sync.WaitGroup
	for range 8 {
		side.Go(func() {
			for range 30 {
				solid.Seal(api.Ring{Key: few, Next: math.MaxUint64}, l[1])
				solid.Open(most, want)
				solid.Cut(want, api.Piece{From: 1, Len: 1 << 20})
				solid.Test(few, want[1:], nil)
				b, at, behind, e := solid.Build(r, l)
				if !bytes.Equal(b, want) || !slices.Equal(at, standing(l)) || behind.Next != 6 || e != api.OK {
					t.Errorf("got %v, %v, %#x, %d", b, at, behind, e)
				}
				text, e := solid.Open(few, b)
				if !bytes.Equal(text, slices.Concat(l...)) || e != api.OK || solid.Test(few, b, at) != api.OK {
					t.Errorf("got %v, %d", text, e)
				}
				if last, e := solid.Cut(text, at[3]); string(last) != "c" || e != api.OK {
					t.Errorf("got %v, %d", last, e)
				}
			}
		})
	}
	side.Wait()
}
