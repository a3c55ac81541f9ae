package table_test

import (
	"slices"
	"testing"

	"tansy/api"
	"tansy/table"
)

// names are those of a list's files.
func names(l []api.File) []string {
	var p []string
	for _, f := range l {
		p = append(p, f.Name)
	}
	return p
}

// P13.2: of b and a, put in that order, a is the first one; and so are all others of a few, put in any order of three, or the other way round.
func TestPutInOrder(t *testing.T) {
	put := func(all ...api.File) []api.File {
		var l []api.File
		for _, f := range all {
			var e api.Errno
			if l, e = table.Put(l, f); e != api.OK {
				t.Fatalf("%v: got %d", f, e)
			}
		}
		return l
	}
	a, b := file("a", 1), file("b", 2)
	if got := put(b, a); !are(got, []api.File{a, b}) {
		t.Errorf("got %v", got)
	}
	all := tableOf(few()...)
	for i := range all {
		for k := range all {
			for m := range all {
				three := []int{i, k, m}
				slices.Sort(three)
				var want []api.File
				for _, n := range slices.Compact(three) {
					want = append(want, all[n])
				}
				if got := put(all[i], all[k], all[m]); !are(got, want) {
					t.Errorf("%d, %d, %d: got %v", i, k, m, got)
				}
			}
		}
	}
	back := slices.Clone(all)
	slices.Reverse(back)
	if got := put(back...); !are(got, all) {
		t.Errorf("got %v", got)
	}
}

// P13.2: a file that is put takes the place of the one of its name, all parts of it, and no other one's.
func TestPutInPlace(t *testing.T) {
	for _, l := range [][]api.File{tableOf("a"), tableOf(few()...), full(256)} {
		for i := range l {
			for _, f := range []api.File{file(l[i].Name, 1000+i), l[i], {Name: l[i].Name}, {Name: l[i].Name, Blk: 8192, From: 65536}, {Name: l[i].Name, Len: 65536}} {
				want := slices.Clone(l)
				want[i] = f
				if got, e := table.Put(l, f); !are(got, want) || e != api.OK {
					t.Fatalf("%v: got %v, %d", f, got, e)
				}
			}
		}
	}
}

// P13.2: a rank is put as it stands, with its bits, and no other file's is another one.
func TestPutRanks(t *testing.T) {
	l := full(len(ranks()))
	for i, r := range ranks() {
		f := file("abc", 3)
		f.Rank = r
		want := slices.Insert(slices.Clone(l), len(l), f)
		want = tableSorted(want)
		if got, e := table.Put(l, f); !are(got, want) || e != api.OK {
			t.Errorf("%d: got %v, %d, want %v", i, got, e, want)
		}
	}
}

// tableSorted are files in order of their names.
func tableSorted(l []api.File) []api.File {
	order := inOrder(names(l))
	l = slices.Clone(l)
	slices.SortFunc(l, func(a, b api.File) int {
		return slices.Index(order, a.Name) - slices.Index(order, b.Name)
	})
	return l
}

// P13.2: ErrFull, if there are MaxFiles, and none of its name: ahead of all, between, and behind; of one less there is room.
func TestPutFull(t *testing.T) {
	for _, p := range []string{"!", "aaa/a", "aaa-", "aez/z", "zzz", "~", edge("b")} {
		if got, e := table.Put(full(256), file(p, 9)); len(got) != 0 || e != api.ErrFull {
			t.Errorf("%q: got %d files, %d", p, len(got), e)
		}
		l := full(255)
		want := tableSorted(append(slices.Clone(l), file(p, 9)))
		got, e := table.Put(l, file(p, 9))
		if !are(got, want) || e != api.OK {
			t.Errorf("%q: got %v, %d", p, got, e)
		}
		if got, e := table.Put(got, file("aaaa", 9)); len(got) != 0 || e != api.ErrFull {
			t.Errorf("%q: got %d files, %d", p, len(got), e)
		}
	}
}

// P13.2: Put is ErrArg of what is no table, or a file that may not be, also if the table is full.
func TestPutArg(t *testing.T) {
	for _, l := range noTables() {
		for _, f := range []api.File{file("a", 1), file("zz", 1), {}} {
			if got, e := table.Put(l, f); len(got) != 0 || e != api.ErrArg {
				t.Errorf("%.3v, %v: got %v, %d", l, f, got, e)
			}
		}
	}
	for _, f := range append(mayNot(), api.File{}) {
		for _, l := range [][]api.File{nil, tableOf("a", "b", "c"), full(256)} {
			if got, e := table.Put(l, f); len(got) != 0 || e != api.ErrArg {
				t.Errorf("%v: got %v, %d", f, got, e)
			}
		}
	}
}

// P13.2: Del is the table without the file of that name, and with all others; ErrNone, if there is none of it, also if the name is a folder's.
func TestDel(t *testing.T) {
	for _, l := range [][]api.File{tableOf("a"), tableOf(few()...), full(256)} {
		for i := range l {
			want := slices.Delete(slices.Clone(l), i, i+1)
			if got, e := table.Del(l, l[i].Name); !are(got, want) || e != api.OK {
				t.Errorf("%q: got %v, %d", l[i].Name, got, e)
			}
		}
		for _, p := range []string{"A", "aa", "a/b/c/d", "aab!", "a/bb", "zzz", "~~", edge("a")} {
			if got, e := table.Del(l, p); len(got) != 0 || e != api.ErrNone {
				t.Errorf("%q: got %v, %d", p, got, e)
			}
		}
	}
	for _, l := range [][]api.File{nil, tableOf("a/b", "b")} {
		if got, e := table.Del(l, "a"); len(got) != 0 || e != api.ErrNone {
			t.Errorf("%v: got %v, %d", l, got, e)
		}
	}
}

// P13.2: Del is ErrArg of what is no table, or no clean name, also if there would be none.
func TestDelArg(t *testing.T) {
	for _, l := range noTables() {
		for _, p := range []string{"a", "b", "zz", "", ".."} {
			if got, e := table.Del(l, p); len(got) != 0 || e != api.ErrArg {
				t.Errorf("%.3v, %q: got %v, %d", l, p, got, e)
			}
		}
	}
	for _, p := range append(odd(), "") {
		for _, l := range [][]api.File{nil, tableOf("a", "b"), full(256)} {
			if got, e := table.Del(l, p); len(got) != 0 || e != api.ErrArg {
				t.Errorf("%q: got %v, %d", p, got, e)
			}
		}
	}
}

// P13.2: Move gives a file another name, with all its other parts, where that name stands; to its own name it is the table as it is.
func TestMove(t *testing.T) {
	targets := append(few(), "!!", "a/b/d", "a0", "c", "d/e/f", "~~", edge("a"), edge("c"))
	for _, l := range [][]api.File{tableOf("a"), tableOf("a", "b"), tableOf(few()...), tableOf("a/b", "ab", "b/a")} {
		for i, f := range l {
			for _, to := range targets {
				at := slices.Index(names(l), to)
				if at >= 0 && at != i {
					continue
				}
				want := slices.Clone(l)
				want[i].Name = to
				want = tableSorted(want)
				if got, e := table.Move(l, f.Name, to); !are(got, want) || e != api.OK {
					t.Errorf("%q to %q: got %v, %d, want %v", f.Name, to, got, e, want)
				}
			}
		}
	}
}

// P13.2: Move finds room in a full table, from each place to each end, and to the middle.
func TestMoveFull(t *testing.T) {
	l := full(256)
	for i, f := range l {
		for _, to := range []string{"!", "aezz", "zzz", f.Name, f.Name + "/a"} {
			want := slices.Clone(l)
			want[i].Name = to
			want = tableSorted(want)
			if got, e := table.Move(l, f.Name, to); !are(got, want) || e != api.OK {
				t.Fatalf("%q to %q: got %v, %d", f.Name, to, got, e)
			}
		}
	}
}

// P13.2: ErrThere, if there is one of the name to, and that is another name.
func TestMoveThere(t *testing.T) {
	for _, l := range [][]api.File{tableOf("a", "b"), tableOf(few()...)} {
		for i := range l {
			for k := range l {
				got, e := table.Move(l, l[i].Name, l[k].Name)
				if i == k && (!are(got, l) || e != api.OK) || i != k && (len(got) != 0 || e != api.ErrThere) {
					t.Errorf("%q to %q: got %v, %d", l[i].Name, l[k].Name, got, e)
				}
			}
		}
	}
	// A folder is no file, and what would stand within the file is not in its way.
	l := tableOf("a/b", "c")
	for _, to := range []string{"a", "a/b/c", "a/c", "c/a"} {
		if got, e := table.Move(l, "c", to); len(got) != 2 || e != api.OK {
			t.Errorf("%q: got %v, %d", to, got, e)
		}
	}
}

// P13.2: ErrNone, if there is none of the name from, ahead of ErrThere, also if it is the name to.
func TestMoveNone(t *testing.T) {
	for _, l := range [][]api.File{nil, tableOf("a/b", "b"), full(256)} {
		for _, from := range []string{"a", "c", "a/b/c", "~", edge("a")} {
			for _, to := range []string{"a", "b", "aaa", "c", from} {
				if got, e := table.Move(l, from, to); len(got) != 0 || e != api.ErrNone {
					t.Errorf("%q to %q: got %v, %d", from, to, got, e)
				}
			}
		}
	}
}

// P13.2: Move is ErrArg of what is no table, or of one that is no clean name, or both, whatever else there is.
func TestMoveArg(t *testing.T) {
	for _, l := range noTables() {
		for _, c := range [][2]string{{"a", "b"}, {"a", "d"}, {"zz", "a"}, {"a", "a"}, {"", ".."}} {
			if got, e := table.Move(l, c[0], c[1]); len(got) != 0 || e != api.ErrArg {
				t.Errorf("%.3v, %q: got %v, %d", l, c, got, e)
			}
		}
	}
	for _, p := range append(odd(), "") {
		for _, other := range []string{"a", "b", "zz", p} {
			for _, l := range [][]api.File{nil, tableOf("a", "b"), full(256)} {
				if got, e := table.Move(l, p, other); len(got) != 0 || e != api.ErrArg {
					t.Errorf("%q to %q: got %v, %d", p, other, got, e)
				}
				if got, e := table.Move(l, other, p); len(got) != 0 || e != api.ErrArg {
					t.Errorf("%q to %q: got %v, %d", other, p, got, e)
				}
			}
		}
	}
}
