package crc_test

import (
	"bytes"
	"testing"

	"tansy/api"
	"tansy/crc"
)

// scribble writes into a list, and into the room behind it.
func scribble(b []byte) {
	b = b[:cap(b)]
	for i := range b {
		b[i] ^= 0xEE
	}
}

// lists are all calls that answer octets, of a text, and what they are handed of it.
func lists() map[string]func(b []byte) (handed, got []byte) {
	return map[string]func([]byte) ([]byte, []byte){
		"Seal": func(b []byte) ([]byte, []byte) { return b, crc.Seal(b) },
		"Open": func(b []byte) ([]byte, []byte) {
			s := crc.Seal(b)
			got, _ := crc.Open(s)
			return s, got
		},
	}
}

// R2: no call changes what it is handed, nor what it answered, whoever writes into what was handed in behind it, or into another answer.
func TestOwn(t *testing.T) {
	for what, call := range lists() {
		for _, n := range []int{0, 1, 3, 4, 9, 64, 1000} {
			b := octets(20, n)
			_, got := call(b)
			if !bytes.Equal(b, octets(20, n)) {
				t.Errorf("%s of %d: what was handed in is another one", what, n)
			}
			want := bytes.Clone(got)
			handed, got := call(b)
			was := bytes.Clone(handed)
			_, other := call(b)
			scribble(other)
			if !bytes.Equal(got, want) {
				t.Errorf("%s of %d: got %v behind a scribble into another answer", what, n, got)
			}
			scribble(got)
			if !bytes.Equal(handed, was) {
				t.Errorf("%s of %d: %v was handed in, is %v behind a scribble into the answer", what, n, was, handed)
			}
			handed, got = call(b)
			scribble(handed)
			if !bytes.Equal(got, want) {
				t.Errorf("%s of %d: got %v behind a scribble into what was handed in", what, n, got)
			}
		}
	}
}

// R2: room behind a text that is handed in is the caller's too: no call writes there.
func TestRoomBehind(t *testing.T) {
	all := append(octets(21, 40), crc.Seal(octets(21, 40))...)
	was := bytes.Clone(all)
	for n := range 41 {
		crc.Sum(all[:n])
		crc.Step(7, all[:n])
		crc.Seal(all[:n])
		crc.Open(all[:n])
		if _, e := crc.Open(all[40:84]); e != api.OK {
			t.Fatalf("got %d", e)
		}
		if !bytes.Equal(all, was) {
			t.Fatalf("%d: got %v", n, all)
		}
	}
}

// R2: an answer that does not share its room with what was handed in is appended to without reaching that.
func TestAppended(t *testing.T) {
	s := append(crc.Seal([]byte("tansy")), "behind"...)
	got, e := crc.Open(s[:9])
	if e != api.OK {
		t.Fatalf("got %d", e)
	}
	_ = append(got, "another"...)
	if want := append(crc.Seal([]byte("tansy")), "behind"...); !bytes.Equal(s, want) {
		t.Errorf("got %v, want %v", s, want)
	}
}

// R1, R5: asked again, and between other calls, each call answers the same; nothing is kept.
func TestAgain(t *testing.T) {
	b := octets(22, 50)
	sum, step, seal := crc.Sum(b), crc.Step(9, b), crc.Seal(b)
	join, _ := crc.Join(sum, step, 50)
	for _, n := range []int{-1, 0, 50, api.MaxText, api.MaxText + 1} {
		crc.Join(step, sum, n)
		crc.Open(b)
		crc.Seal(nil)
		again, e := crc.Join(sum, step, 50)
		if crc.Sum(b) != sum || crc.Step(9, b) != step || !bytes.Equal(crc.Seal(b), seal) || again != join || e != api.OK {
			t.Errorf("behind a join of %d: got another answer", n)
		}
	}
}
