package name_test

import (
	"strings"
	"testing"

	"tansy/api"
	"tansy/name"
)

// names are all clean names of up to so many of an alphabet's octets.
func names(alphabet string, most int) []string {
	var l []string
	for _, s := range texts(alphabet, most) {
		if clean(s) {
			l = append(l, s)
		}
	}
	return l
}

// folders are all clean folders of up to so many of an alphabet's octets.
func folders(alphabet string, most int) []string { return append(names(alphabet, most), "") }

// longNames are clean names by chance, many of which begin alike, up to the longest ones.
func longNames(seed uint64, count int) []string {
	var l []string
	for _, n := range []int{1, 2, 3, 7, 40, 94, 95, 96} {
		for _, s := range byChance(seed, count, n, "a/", "a", "b/", "a-", "~/", "!", "a/a/a/", ".x/") {
			if clean(s) {
				l = append(l, s)
			}
		}
	}
	return append(l, long(95), long(93), long(94)+"aa", strings.Repeat("a", 96), strings.Repeat("a", 95), strings.Repeat("a", 94)+"/a")
}

// within tells whether all parts of dir are the first ones of p, which has more, as the chapter's words say.
func within(dir, p string) bool {
	if dir == "" {
		return true
	}
	first, all := strings.Split(dir, "/"), strings.Split(p, "/")
	if len(all) <= len(first) {
		return false
	}
	for i, part := range first {
		if all[i] != part {
			return false
		}
	}
	return true
}

// inTurn holds two lists, or two texts' octets, against each other one by one; one that is another one's beginning is below it.
func inTurn(n, m int, one func(int) int) int {
	for i := range min(n, m) {
		if c := one(i); c != 0 {
			return c
		}
	}
	return sign(n - m)
}

func sign(n int) int { return min(max(n, -1), 1) }

// cmp is what Cmp is to answer of clean names, as the chapter's words say.
func cmp(a, b string) int {
	p, q := strings.Split(a, "/"), strings.Split(b, "/")
	return inTurn(len(p), len(q), func(i int) int {
		return inTurn(len(p[i]), len(q[i]), func(k int) int { return sign(int(p[i][k]) - int(q[i][k])) })
	})
}

// P11.3: names that are known, in two.
func TestSplitKnown(t *testing.T) {
	for _, c := range []struct{ p, dir, last string }{
		{"a", "", "a"},
		{"a/b", "a", "b"},
		{"a/b/c", "a/b", "c"},
		{"ab/cd", "ab", "cd"},
		{"...", "", "..."},
		{"a/...", "a", "..."},
		{".../a", "...", "a"},
		{strings.Repeat("a", 96), "", strings.Repeat("a", 96)},
		{long(95), long(93), "a"},
		{strings.Repeat("a", 94) + "/b", strings.Repeat("a", 94), "b"},
		{"b/" + strings.Repeat("a", 94), "b", strings.Repeat("a", 94)},
	} {
		if dir, last, e := name.Split(c.p); dir != c.dir || last != c.last || e != api.OK {
			t.Errorf("%q: got %q, %q, %d, want %q, %q", c.p, dir, last, e, c.dir, c.last)
		}
	}
}

// P11.3: Split is ErrArg of what is no clean name, else all parts but the last one, and that one.
func TestSplit(t *testing.T) {
	for _, s := range append(append(append(odd(), ""), texts("a./~ ", 6)...), longNames(17, 100)...) {
		wantDir, wantLast, want := "", "", api.ErrArg
		if clean(s) {
			all := strings.Split(s, "/")
			wantDir, wantLast, want = strings.Join(all[:len(all)-1], "/"), all[len(all)-1], api.OK
		}
		if dir, last, e := name.Split(s); dir != wantDir || last != wantLast || e != want {
			t.Fatalf("%q: got %q, %q, %d, want %q, %q, %d", s, dir, last, e, wantDir, wantLast, want)
		}
	}
}

// P11.3: what is within a folder, and what is not: itself, what is within another one that begins alike, and what it is within.
func TestWithinKnown(t *testing.T) {
	for _, c := range []struct {
		dir, p string
		want   bool
	}{
		{"", "a", true},
		{"", "a/b", true},
		{"a", "a/b", true},
		{"a", "a/b/c", true},
		{"a/b", "a/b/c", true},
		{"a", "a", false},
		{"a", "ab", false},
		{"a", "ab/c", false},
		{"a", "a-/c", false},
		{"a", "a.", false},
		{"ab", "a/b", false},
		{"a/b", "a", false},
		{"a/b", "a/b", false},
		{"a/b", "a/bc", false},
		{"a/b", "a/c/b", false},
		{"a/b", "b/a/b", false},
		{"b", "a/b", false},
		{"a", "A/b", false},
		{long(93), long(95), true},
		{long(95), long(95), false},
		{"", long(95), true},
		{strings.Repeat("a", 96), strings.Repeat("a", 94) + "/a", false},
		{strings.Repeat("a", 94), strings.Repeat("a", 94) + "/a", true},
	} {
		if got, e := name.Within(c.dir, c.p); got != c.want || e != api.OK {
			t.Errorf("%q, %q: got %t, %d", c.dir, c.p, got, e)
		}
	}
}

// P11.3: of all folders and names of few octets, and of long ones.
func TestWithin(t *testing.T) {
	for _, c := range [][2][]string{
		{folders("ab/", 5), names("ab/", 6)},
		{folders("a./", 5), names("a./", 6)},
		{folders("a-~/", 4), names("a-~/", 5)},
		{append(longNames(18, 60), ""), longNames(18, 60)},
	} {
		for _, dir := range c[0] {
			for _, p := range c[1] {
				if got, e := name.Within(dir, p); got != within(dir, p) || e != api.OK {
					t.Fatalf("%q, %q: got %t, %d", dir, p, got, e)
				}
			}
		}
	}
}

// P11.3: Within is ErrArg of what is no clean folder, or no clean name, also if the other one is none; an empty one is a folder, and no name.
func TestWithinArg(t *testing.T) {
	for _, s := range odd() {
		for _, other := range append(odd(), "", "a", "a/b", long(95)) {
			if got, e := name.Within(s, other); got || e != api.ErrArg {
				t.Errorf("%q, %q: got %t, %d", s, other, got, e)
			}
			if got, e := name.Within(other, s); got || e != api.ErrArg {
				t.Errorf("%q, %q: got %t, %d", other, s, got, e)
			}
		}
	}
	for _, dir := range []string{"", "a", "a/b"} {
		if got, e := name.Within(dir, ""); got || e != api.ErrArg {
			t.Errorf("%q: got %t, %d", dir, got, e)
		}
	}
}

// P11.4: names that are known, each below all behind it: a slash is below what a part goes on with, also below octets less than 47.
func TestCmpKnown(t *testing.T) {
	l := []string{
		"!", "!/~", "!!", "-", ".-", "...", "0", "A", "A/z", "Z", "a", "a/!", "a/a", "a/a/a", "a/a-", "a/aa", "a/b", "a/~/a", "a!", "a!/a", "a-", "a-/b", "a.", "a..", "a0", "aa", "aa/a", "aaa", "ab", "b", "~", "~/~", "~~",
	}
	for i, a := range l {
		for k, b := range l {
			if got, e := name.Cmp(a, b); got != sign(i-k) || e != api.OK {
				t.Errorf("%q, %q: got %d, %d, want %d", a, b, got, e, sign(i-k))
			}
		}
	}
}

// P11.4: of all names of few octets, and of long ones.
func TestCmp(t *testing.T) {
	for _, l := range [][]string{names("ab/", 6), names("a./", 6), names("!/~0", 5), longNames(19, 60)} {
		for _, a := range l {
			for _, b := range l {
				if got, e := name.Cmp(a, b); got != cmp(a, b) || e != api.OK {
					t.Fatalf("%q, %q: got %d, %d, want %d", a, b, got, e, cmp(a, b))
				}
			}
		}
	}
}

// P11.4: each two octets of parts are held against each other, ahead of what comes behind them.
func TestCmpEachOctet(t *testing.T) {
	all := strings.ReplaceAll(ofName(), "/", "")
	for i := range len(all) {
		for k := range len(all) {
			a, b := "x/y"+all[i:i+1]+"b/c", "x/y"+all[k:k+1]+"b/c"
			if got, e := name.Cmp(a, b); got != sign(i-k) || e != api.OK {
				t.Errorf("%q, %q: got %d, %d", a, b, got, e)
			}
			a, b = "y"+all[i:i+1]+"~/~", "y"+all[k:k+1]+"!"
			want := sign(i - k)
			if i == k {
				want = 1
			}
			if got, e := name.Cmp(a, b); got != want || e != api.OK {
				t.Errorf("%q, %q: got %d, %d", a, b, got, e)
			}
		}
	}
}

// P11.4: Cmp is ErrArg, if one is no clean name, or both, also if they are the same; the empty one is none.
func TestCmpArg(t *testing.T) {
	for _, s := range append(odd(), "") {
		for _, other := range append(odd(), "", "!", "a", "a/b", "~~", long(95)) {
			for _, c := range [][2]string{{s, other}, {other, s}, {s, s}} {
				if got, e := name.Cmp(c[0], c[1]); got != 0 || e != api.ErrArg {
					t.Errorf("%q, %q: got %d, %d", c[0], c[1], got, e)
				}
			}
		}
	}
}
