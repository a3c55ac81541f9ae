package table_test

import (
	"math"
	"slices"
	"strings"
	"sync"
	"testing"
	"unsafe"

	"tansy/api"
	"tansy/table"
)

// lender lends names that stand in memory of the caller's.
type lender struct{ memory [][]byte }

func (x *lender) name(p string) string {
	b := []byte(p)
	x.memory = append(x.memory, b)
	return unsafe.String(unsafe.SliceData(b), len(b))
}

func (x *lender) file(f api.File) api.File {
	f.Name = x.name(f.Name)
	return f
}

func (x *lender) list(l []api.File) []api.File {
	l = slices.Clone(l)
	for i := range l {
		l[i] = x.file(l[i])
	}
	return l
}

// scribble writes into all names that were lent.
func (x *lender) scribble() {
	for _, b := range x.memory {
		for i := range b {
			b[i] = '#'
		}
	}
}

// scrawl writes into a list, and into the room behind it.
func scrawl(l []api.File) {
	l = l[:cap(l)]
	for i := range l {
		l[i] = api.File{Name: "//", Rank: -777, Blk: -777}
	}
}

// deep is a list whose names stand in memory of their own.
func deep(l []api.File) []api.File {
	l = slices.Clone(l)
	for i := range l {
		l[i].Name = strings.Clone(l[i].Name)
	}
	return l
}

// calls are all calls that answer a list, of a table, a file that may be, and two names.
func calls() []func([]api.File, api.File, string, string) ([]api.File, api.Errno) {
	return []func([]api.File, api.File, string, string) ([]api.File, api.Errno){
		func(l []api.File, f api.File, a, b string) ([]api.File, api.Errno) { return table.Put(l, f) },
		func(l []api.File, f api.File, a, b string) ([]api.File, api.Errno) { return table.Del(l, a) },
		func(l []api.File, f api.File, a, b string) ([]api.File, api.Errno) { return table.Move(l, a, b) },
		func(l []api.File, f api.File, a, b string) ([]api.File, api.Errno) { return table.Within(l, a) },
		func(l []api.File, f api.File, a, b string) ([]api.File, api.Errno) { return table.Within(l, "") },
		func(l []api.File, f api.File, a, b string) ([]api.File, api.Errno) { return table.Best(l) },
		func(l []api.File, f api.File, a, b string) ([]api.File, api.Errno) {
			one, e := table.Get(l, a)
			return []api.File{one}, e
		},
	}
}

// R2: what is handed in is as it was; and what is answered stays as it is, whoever writes into the list that was handed in, into the names that were, or into another answer.
func TestOwn(t *testing.T) {
	for _, was := range [][]api.File{nil, tableOf("a"), tableOf("a", "b"), tableOf(few()...), full(255), full(256)} {
		for _, c := range [][2]string{{"a", "a"}, {"a", "b"}, {"a", "c/d"}, {"c", "d"}, {"b", "!!"}, {"aaa", "ddd/e"}, {"aaa", "aaa"}} {
			for i, call := range calls() {
				var x lender
				l, f, a, b := x.list(was), x.file(file(c[0], 50)), x.name(c[0]), x.name(c[1])
				got, e := call(l, f, a, b)
				other, _ := call(l, f, a, b)
				if !are(l, was) || a != c[0] || b != c[1] || !is(f, file(c[0], 50)) {
					t.Fatalf("%d, %q: %v was handed in", i, c, l)
				}
				want := deep(got)
				scrawl(other)
				if !are(got, want) || !are(l, was) {
					t.Fatalf("%d, %q: got %v behind a scrawl into another answer", i, c, got)
				}
				scrawl(l)
				x.scribble()
				if !are(got, want) {
					t.Fatalf("%d, %q: got %v, %d behind a scrawl into what was handed in, want %v", i, c, got, e, want)
				}
			}
		}
	}
}

// R2: what is only checked, or held against something, is as it was too; and room behind a list that is handed in is the caller's.
func TestOwnAsked(t *testing.T) {
	l := tableOf(few()...)
	was := deep(l)
	for n := range l {
		table.Check(l[:n])
		table.Same(l[:n], l)
		for _, call := range calls() {
			got, _ := call(l[:n], file("a/a0", 3), "a", "c")
			_ = append(got, api.File{})
			scrawl(got)
		}
		if !are(l, was) {
			t.Fatalf("%d: %v was handed in", n, l)
		}
	}
	for _, l := range noTables() {
		was := deep(l)
		table.Check(l)
		table.Same(l, full(2))
		for _, call := range calls() {
			call(l, file("a", 1), "a", "b")
		}
		if !are(l, was) {
			t.Fatalf("%v was handed in", was)
		}
	}
}

// R3: no list, and an empty one, are the same.
func TestNothing(t *testing.T) {
	for _, l := range [][]api.File{nil, {}, full(3)[:0]} {
		if !table.Same(l, nil) || !table.Same(nil, l) || table.Check(l) != api.OK {
			t.Errorf("%v is not nothing", l)
		}
		f := file("a", 1)
		if got, e := table.Put(l, f); !are(got, []api.File{f}) || e != api.OK {
			t.Errorf("got %v, %d", got, e)
		}
	}
	if got, e := table.Del(tableOf("a"), "a"); len(got) != 0 || e != api.OK || !table.Same(got, nil) {
		t.Errorf("got %v, %d", got, e)
	}
}

// R1: each call ends, with nothing but an error, at lists that are no tables, whatever else it is handed, and at numbers of all ends.
func TestAnything(t *testing.T) {
	texts := append(odd(), "", "a", "b", edge("a"), strings.Repeat("../", 1<<16))
	files := append(mayNot(), api.File{}, file("a", 1), api.File{Name: "a", Rank: math.NaN(), Blk: math.MinInt, From: math.MinInt, Len: math.MaxInt})
	lists := append(noTables(), slices.Repeat([]api.File{{}}, 100000))
	for i, l := range lists {
		a, b, f := texts[i%len(texts)], texts[i*7%len(texts)], files[i%len(files)]
		for k, call := range calls() {
			got, e := call(l, f, a, b)
			if e != api.ErrArg || len(got) > 1 || len(got) == 1 && !is(got[0], api.File{}) {
				t.Errorf("%d: %.3v, %.50q, %.50q: got %v, %d", k, l, a, b, got, e)
			}
		}
	}
}

// R5: asked again, behind calls that end with an error, and side by side with others, each call answers the same; nothing is kept.
func TestAgain(t *testing.T) {
	lists := [][]api.File{nil, tableOf(few()...), full(256), noTables()[0]}
	ask := func() ([][]api.File, []api.Errno) {
		var all [][]api.File
		var errs []api.Errno
		for _, l := range lists {
			for _, call := range calls() {
				got, e := call(l, file("a/a0", 3), "a", "c")
				all, errs = append(all, got), append(errs, e)
			}
		}
		return all, errs
	}
	want, errs := ask()
	var side sync.WaitGroup
	for range 8 {
		side.Go(func() {
			for range 20 {
				got, e := ask()
				if !slices.EqualFunc(got, want, are) || !slices.Equal(e, errs) {
					t.Errorf("got %v, %v", got, e)
				}
			}
		})
	}
	side.Wait()
}
