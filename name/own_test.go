package name_test

import (
	"strings"
	"sync"
	"testing"
	"unsafe"

	"tansy/api"
	"tansy/name"
)

// lent is a text that stands in memory of the caller's, and that memory.
func lent(s string) (string, []byte) {
	b := []byte(s)
	return unsafe.String(unsafe.SliceData(b), len(b)), b
}

// scribble writes into the memory of a text that was handed in.
func scribble(b []byte) {
	for i := range b {
		b[i] ^= 0xEE
	}
}

// R2: what is handed in is as it was, and what is answered does not change when somebody writes into what was handed in.
func TestOwn(t *testing.T) {
	for _, c := range [][2]string{{"", "b"}, {"a", "b"}, {"a", "b/c"}, {"a/b", "c"}, {"abc", "./d"}, {long(61), "bcd"}} {
		dir, ofDir := lent(c[0])
		s, ofS := lent(c[1])
		joined, e := name.Join(dir, s)
		whole, f := name.Clean(s)
		if string(ofDir) != c[0] || string(ofS) != c[1] {
			t.Errorf("%q: %q, %q were handed in", c, ofDir, ofS)
		}
		scribble(ofDir)
		scribble(ofS)
		wantJoined, g := cleaned(c[0] + "/" + c[1])
		wantWhole, h := cleaned(c[1])
		if joined != wantJoined || whole != wantWhole || e != g || f != h {
			t.Errorf("%q: got %q, %q, %d, %d", c, joined, whole, e, f)
		}
	}
	for _, p := range []string{"a", "abc", "a/b", "ab/cd/ef", long(95)} {
		s, b := lent(p)
		dir, last, e := name.Split(s)
		if string(b) != p {
			t.Errorf("%q: %q was handed in", p, b)
		}
		scribble(b)
		wantDir, wantLast, f := name.Split(p)
		if dir != wantDir || last != wantLast || e != api.OK || f != api.OK {
			t.Errorf("%q: got %q, %q, %d", p, dir, last, e)
		}
	}
}

// R2: what is only held against something, or checked, is as it was too.
func TestOwnAsked(t *testing.T) {
	for _, c := range [][2]string{{"a", "a/b"}, {"a/b", "a/b/c"}, {"a", "a"}, {"..", "a/../b"}, {"a//b", " "}} {
		a, ofA := lent(c[0])
		b, ofB := lent(c[1])
		name.Check(a)
		name.Check(b)
		name.Within(a, b)
		name.Cmp(a, b)
		name.Cmp(b, a)
		if string(ofA) != c[0] || string(ofB) != c[1] {
			t.Errorf("%q: %q, %q were handed in", c, ofA, ofB)
		}
	}
}

// answers are what each call answers of two texts.
type answers struct {
	clean, join, dir, last string
	within                 bool
	cmp                    int
	e                      [6]api.Errno
}

func asked(a, b string) answers {
	var x answers
	x.clean, x.e[0] = name.Clean(a)
	x.e[1] = name.Check(a)
	x.join, x.e[2] = name.Join(a, b)
	x.dir, x.last, x.e[3] = name.Split(a)
	x.within, x.e[4] = name.Within(a, b)
	x.cmp, x.e[5] = name.Cmp(a, b)
	return x
}

// R1: each call ends, with what may be, at any two texts, however long they are, and whatever octets they have.
func TestAnyTexts(t *testing.T) {
	l := append(odd(), "", "a", "a/b", long(95), strings.Repeat("a", 1<<20), strings.Repeat("/", 1<<20), strings.Repeat("../", 1<<18))
	for n := range 40 {
		b := []byte(long(n))
		for i := range b {
			b[i] = byte(i*n*7 + n)
		}
		l = append(l, string(b))
	}
	for _, a := range l {
		for _, b := range l {
			x := asked(a, b)
			if x.e[0] != api.OK && x.clean != "" || x.e[2] != api.OK && x.join != "" || x.e[3] != api.OK && x.dir+x.last != "" || x.e[4] != api.OK && x.within || x.e[5] != api.OK && x.cmp != 0 {
				t.Errorf("%.100q, %.100q: got %v", a, b, x)
			}
		}
	}
}

// R5: asked again, behind calls that end with an error, and side by side with others, each call answers the same; nothing is kept.
func TestAgain(t *testing.T) {
	pairs := [][2]string{{"a/b", "a/b/c"}, {"a/b/../c", "d"}, {"a", "../.."}, {"a b", "a"}, {"", "a"}, {long(95), long(97)}, {"a/b", "a-b"}}
	var want [7]answers
	for i, c := range pairs {
		want[i] = asked(c[0], c[1])
	}
	var all sync.WaitGroup
	for range 8 {
		all.Go(func() {
			for range 50 {
				for i, c := range pairs {
					if got := asked(c[0], c[1]); got != want[i] {
						t.Errorf("%q: got %v, want %v", c, got, want[i])
					}
				}
			}
		})
	}
	all.Wait()
}
