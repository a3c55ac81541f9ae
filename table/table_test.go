package table_test

import (
	"math"
	"slices"
	"strings"
	"testing"

	"tansy/api"
	"tansy/table"
)

// ranks are numbers of all ends, and what is no number, by several bits; each is below the next one, but that what is no number is one.
func ranks() []float64 {
	return []float64{math.Inf(-1), -math.MaxFloat64, -1, -0x1p-1074, math.Copysign(0, -1), 0, 0x1p-1074, 1, 1.5, math.MaxFloat64, math.Inf(1), math.NaN(), math.Float64frombits(1<<64 - 1), math.Float64frombits(0x7FF0000000000001)}
}

// nones is how many of the ranks, the last ones, are no number.
const nones = 3

// file is a file of that name that may be, whose other parts follow from n.
func file(p string, n int) api.File {
	n &= 1<<20 - 1
	from := n * 7919 % 65537
	return api.File{Name: p, Rank: ranks()[n%len(ranks())], Sum: uint32(n) * 2654435761, Blk: n * 37 % 8193, From: from, Len: n * 31 % (65537 - from)}
}

// inOrder are texts in order of names: part by part, as they stand if slashes are less than all that may be in a part.
func inOrder(l []string) []string {
	l = slices.Clone(l)
	slices.SortFunc(l, func(a, b string) int {
		return strings.Compare(strings.ReplaceAll(a, "/", " "), strings.ReplaceAll(b, "/", " "))
	})
	return l
}

// tableOf is the table of those names, each once, with parts that are not the same.
func tableOf(names ...string) []api.File {
	var l []api.File
	for i, p := range slices.Compact(inOrder(names)) {
		l = append(l, file(p, i*97+len(names)))
	}
	return l
}

// number is a clean name of three octets: the greater n, the further behind it stands.
func number(n int) string {
	return string([]byte{byte('a' + n/676%26), byte('a' + n/26%26), byte('a' + n%26)})
}

// full is a table of so many files.
func full(n int) []api.File {
	var l []api.File
	for i := range n {
		l = append(l, file(number(i), i))
	}
	return l
}

// few are names in order: folders, those within them, and others that begin alike.
func few() []string {
	return []string{"!", "a", "a/a", "a/b", "a/b/c", "a/b-", "a-", "a-/b", "a.", "ab", "ab/c", "b", "b/a", "~"}
}

// odd are texts that are no clean names, of each kind; the empty one is not among them.
func odd() []string {
	return []string{"/", "//", "/a", "a/", "a//b", ".", "..", "./a", "a/.", "../a", "a/..", "a/./b", "a/../b", " ", "a b", "a\x1f", "\x00", "a/\x7f", "\x80", "ä", "a/\xff/b", strings.Repeat("a", 97), strings.Repeat("a/", 48) + "a", strings.Repeat("a", 1000)}
}

// edge is a clean name of as many octets as may be.
func edge(o string) string { return strings.Repeat(o, 96) }

// mayNot are files that may not be, of each kind.
func mayNot() []api.File {
	f := file("b", 5)
	var l []api.File
	for _, p := range append(odd(), "") {
		g := f
		g.Name = p
		l = append(l, g)
	}
	for _, n := range []int{-1, 8193, math.MinInt, math.MaxInt} {
		g := f
		g.Blk = n
		l = append(l, g)
	}
	for _, c := range [][2]int{{-1, 0}, {-1, 1}, {0, -1}, {0, 65537}, {1, 65536}, {65535, 2}, {65536, 1}, {65536, -1}, {65537, 0}, {65537, -1}, {32768, 32769}, {math.MinInt, 0}, {0, math.MinInt}, {math.MaxInt, 0}, {0, math.MaxInt}, {math.MaxInt, math.MinInt}, {math.MaxInt, math.MaxInt}, {math.MinInt, math.MaxInt}, {math.MinInt, math.MinInt}, {65536, math.MaxInt}, {65536, math.MinInt}, {1, math.MaxInt}} {
		g := f
		g.From, g.Len = c[0], c[1]
		l = append(l, g)
	}
	return l
}

// noTables are lists that are no tables, of each kind: files in another order, twice, too many, or such as may not be, at each place.
func noTables() [][]api.File {
	a, b, c := file("a", 1), file("b", 2), file("c", 3)
	l := [][]api.File{
		{b, a}, {a, a}, {a, file("a", 7)}, {a, b, b}, {a, a, b}, {a, c, b}, {b, a, c}, {c, b, a}, {a, b, a}, {a, b, c, c},
		{file("a/b", 1), file("a", 2)}, {file("a-", 1), file("a/b", 2)}, {file("a/b-", 1), file("a/b/c", 2)}, {file("ab", 1), file("a/b", 2)}, {file("a.", 1), file("a-", 2)},
		full(257), full(258), full(1000), slices.Repeat([]api.File{a}, 256),
	}
	for _, f := range mayNot() {
		l = append(l, []api.File{f}, []api.File{f, c}, []api.File{a, f}, []api.File{a, f, c})
	}
	for _, at := range []int{0, 1, 128, 254, 255} {
		twice, bad := full(256), full(256)
		twice[at].Name = twice[(at+1)%256].Name
		bad[at].Blk = -1
		l = append(l, twice, bad)
	}
	return l
}

// is tells whether two files have the same parts, ranks by their bits.
func is(a, b api.File) bool {
	same := math.Float64bits(a.Rank) == math.Float64bits(b.Rank)
	a.Rank, b.Rank = 0, 0
	return same && a == b
}

// are tells whether two lists have the same files, ranks by their bits.
func are(a, b []api.File) bool { return slices.EqualFunc(a, b, is) }

// P13.1: Check passes tables: names that rise, whatever ranks and sums there are, at the edges of what a file may be, up to MaxFiles.
func TestCheck(t *testing.T) {
	for _, l := range [][]api.File{
		nil, {}, tableOf("a"), tableOf(few()...), full(2), full(255), full(256),
		{{Name: "a"}},
		{{Name: edge("a")}, {Name: edge("b")}},
		{{Name: "a", Sum: math.MaxUint32, Blk: 8192, From: 65536}},
		{{Name: "a", Len: 65536}},
		{{Name: "a", From: 1, Len: 65535}},
		{{Name: "a", From: 65535, Len: 1}},
		{{Name: "a", From: 32768, Len: 32768}},
		{{Name: "a", Blk: 7}, {Name: "a/b", Blk: 7}, {Name: "a-", Blk: 7}},
	} {
		if e := table.Check(l); e != api.OK {
			t.Errorf("%v: got %d", l, e)
		}
	}
	for _, f := range ranks() {
		if e := table.Check([]api.File{{Name: "a", Rank: f}, {Name: "b", Rank: -f}}); e != api.OK {
			t.Errorf("%x: got %d", math.Float64bits(f), e)
		}
	}
}

// P13.1: Check is ErrArg of what is no table, of each kind.
func TestCheckArg(t *testing.T) {
	for _, l := range noTables() {
		if e := table.Check(l); e != api.ErrArg {
			t.Errorf("%.3v: got %d", l, e)
		}
	}
	for _, f := range mayNot() {
		for _, at := range []int{0, 1, 128, 255} {
			l, g := full(256), f
			// A name that may be is to stand where it does in order, so that it isn't what Check tells of.
			if g.Name == "b" {
				g.Name = l[at].Name
			}
			l[at] = g
			if e := table.Check(l); e != api.ErrArg {
				t.Errorf("%v at %d: got %d", g, at, e)
			}
		}
	}
}

// P13.1: a list of any two, or three, of a few names is a table just if they rise.
func TestCheckRises(t *testing.T) {
	l := few()
	for i := range l {
		for k := range l {
			two := []api.File{file(l[i], 1), file(l[k], 2)}
			if e := table.Check(two); (e == api.OK) != (i < k) {
				t.Errorf("%q, %q: got %d", l[i], l[k], e)
			}
			for m := range l {
				three := append(slices.Clone(two), file(l[m], 3))
				if e := table.Check(three); (e == api.OK) != (i < k && k < m) {
					t.Errorf("%q, %q, %q: got %d", l[i], l[k], l[m], e)
				}
			}
		}
	}
}

// P13.1: lists are the same, if all files are, one by one; each part counts.
func TestSame(t *testing.T) {
	hold := func(a, b []api.File, want bool) {
		t.Helper()
		if table.Same(a, b) != want || table.Same(b, a) != want {
			t.Errorf("%v, %v: want %t", a, b, want)
		}
	}
	hold(nil, []api.File{}, true)
	hold(nil, tableOf("a"), false)
	hold(full(256), full(256), true)
	hold(full(256), full(255), false)
	hold(full(256), full(256)[1:], false)
	hold(full(3), append(full(3), api.File{}), false)
	for _, at := range []int{0, 1, 128, 255} {
		for i, change := range []func(*api.File){
			func(f *api.File) { f.Name += "x" },
			func(f *api.File) { f.Rank = 77 },
			func(f *api.File) { f.Sum ^= 1 << 31 },
			func(f *api.File) { f.Sum++ },
			func(f *api.File) { f.Blk++ },
			func(f *api.File) { f.From++ },
			func(f *api.File) { f.Len-- },
			func(f *api.File) { f.From, f.Len = f.Len, f.From+1 },
		} {
			l := full(256)
			change(&l[at])
			if table.Same(l, full(256)) || table.Same(full(256), l) || !table.Same(l, slices.Clone(l)) {
				t.Errorf("%d at %d", i, at)
			}
		}
	}
}

// P13.1: ranks are the same as rank.Same tells: 0 and -0 are not, and what is no number is, whatever its bits.
func TestSameRanks(t *testing.T) {
	numbers := len(ranks()) - nones
	for i, a := range ranks() {
		for k, b := range ranks() {
			x, y := file("a", 1), file("a", 1)
			x.Rank, y.Rank = a, b
			want := i == k || i >= numbers && k >= numbers
			if got := table.Same([]api.File{x}, []api.File{y}); got != want {
				t.Errorf("%x, %x: got %t", math.Float64bits(a), math.Float64bits(b), got)
			}
			y.Sum++
			if table.Same([]api.File{x}, []api.File{y}) {
				t.Errorf("%x, %x: another sum is the same", math.Float64bits(a), math.Float64bits(b))
			}
		}
	}
}

// P13.1, R1: Same holds lists that are no tables against one another by their files as well.
func TestSameOfNoTables(t *testing.T) {
	l := noTables()
	for i := range l {
		if !table.Same(l[i], slices.Clone(l[i])) || table.Same(l[i], full(3)) || table.Same(full(3), l[i]) {
			t.Errorf("%.3v", l[i])
		}
	}
	if a, b := file("a", 1), file("b", 2); table.Same([]api.File{a, b}, []api.File{b, a}) || table.Same([]api.File{a}, []api.File{a, a}) {
		t.Error("another order, or another count, is the same")
	}
}

// P13.1: Get is the file of that name, wherever it stands; of a name that no file has ErrNone, also if it stands right beside one, or is a folder.
func TestGet(t *testing.T) {
	for _, l := range [][]api.File{nil, tableOf("a/b"), tableOf(few()...), full(1), full(2), full(255), full(256)} {
		for _, f := range l {
			if got, e := table.Get(l, f.Name); !is(got, f) || e != api.OK {
				t.Errorf("%q: got %v, %d, want %v", f.Name, got, e, f)
			}
		}
		for _, p := range []string{"A", "a/d", "aa", "aaa/a", "aaaa", "aab!", "ab/d", "a/bb", "a/b/c/d", "c", "zzz", "~~", edge("a")} {
			if got, e := table.Get(l, p); !is(got, api.File{}) || e != api.ErrNone {
				t.Errorf("%q: got %v, %d", p, got, e)
			}
		}
	}
	if got, e := table.Get(tableOf("a/b"), "a"); !is(got, api.File{}) || e != api.ErrNone {
		t.Errorf("a folder: got %v, %d", got, e)
	}
	l := []api.File{{Name: edge("a"), Blk: 1}, {Name: edge("b"), Blk: 2}}
	if got, e := table.Get(l, edge("b")); !is(got, l[1]) || e != api.OK {
		t.Errorf("got %v, %d", got, e)
	}
}

// P13.1: Get is ErrArg of what is no table, or no clean name, also if there would be none.
func TestGetArg(t *testing.T) {
	for _, l := range noTables() {
		for _, p := range []string{"a", "b", "zz", "", ".."} {
			if got, e := table.Get(l, p); !is(got, api.File{}) || e != api.ErrArg {
				t.Errorf("%.3v, %q: got %v, %d", l, p, got, e)
			}
		}
	}
	for _, p := range append(odd(), "") {
		for _, l := range [][]api.File{nil, tableOf("a", "b"), full(256)} {
			if got, e := table.Get(l, p); !is(got, api.File{}) || e != api.ErrArg {
				t.Errorf("%q: got %v, %d", p, got, e)
			}
		}
	}
}

// P13.1: Within are those within a folder, in order: not the file of the folder's own name, and not those whose names only begin alike; all, if it is empty.
func TestWithin(t *testing.T) {
	l := tableOf(few()...)
	for _, c := range []struct {
		dir  string
		want []string
	}{
		{"", few()},
		{"a", []string{"a/a", "a/b", "a/b/c", "a/b-"}},
		{"a/b", []string{"a/b/c"}},
		{"a-", []string{"a-/b"}},
		{"ab", []string{"ab/c"}},
		{"b", []string{"b/a"}},
		{"a/a", nil},
		{"a/b/c", nil},
		{"a/c", nil},
		{"A", nil},
		{"c", nil},
		{"~", nil},
		{edge("a"), nil},
	} {
		var want []api.File
		for _, p := range c.want {
			want = append(want, l[slices.Index(few(), p)])
		}
		if got, e := table.Within(l, c.dir); !are(got, want) || e != api.OK {
			t.Errorf("%q: got %v, %d, want %v", c.dir, got, e, want)
		}
		if got, e := table.Within(nil, c.dir); len(got) != 0 || e != api.OK {
			t.Errorf("%q of nothing: got %v, %d", c.dir, got, e)
		}
	}
	if got, e := table.Within(full(256), ""); !are(got, full(256)) || e != api.OK {
		t.Errorf("got %v, %d", got, e)
	}
	if got, e := table.Within(full(256), "aaa"); len(got) != 0 || e != api.OK {
		t.Errorf("got %v, %d", got, e)
	}
}

// P13.1: Within is ErrArg of what is no table, or no clean folder, also if the table has no file.
func TestWithinArg(t *testing.T) {
	for _, l := range noTables() {
		for _, dir := range []string{"", "a", "zz", ".."} {
			if got, e := table.Within(l, dir); len(got) != 0 || e != api.ErrArg {
				t.Errorf("%.3v, %q: got %v, %d", l, dir, got, e)
			}
		}
	}
	for _, dir := range odd() {
		for _, l := range [][]api.File{nil, tableOf("a", "a/b"), full(256)} {
			if got, e := table.Within(l, dir); len(got) != 0 || e != api.ErrArg {
				t.Errorf("%q: got %v, %d", dir, got, e)
			}
		}
	}
}
