package name_test

import (
	"slices"
	"strings"
	"testing"

	"tansy/api"
	"tansy/name"
)

// many are clean names of each kind, each once.
func many() []string {
	l := slices.Concat(names("ab/", 5), names("a./", 5), names("a-~/", 4), longNames(20, 60))
	slices.Sort(l)
	return slices.Compact(l)
}

// inOrder are names as Cmp puts them in order.
func inOrder(t *testing.T, l []string) []string {
	t.Helper()
	l = slices.Clone(l)
	slices.SortFunc(l, func(a, b string) int {
		c, e := name.Cmp(a, b)
		if e != api.OK {
			t.Fatalf("%q, %q: got %d", a, b, e)
		}
		return c
	})
	return l
}

// P11.5: what is clean is cleaned to itself, and what is cleaned to itself is clean; so is what anything is cleaned to.
func TestCleanedToItself(t *testing.T) {
	for _, s := range append(append(texts("a./", 9), texts("a./!~ ", 5)...), longNames(21, 200)...) {
		once, e := name.Clean(s)
		if isClean := name.Check(s) == api.OK; isClean != (e == api.OK && once == s) {
			t.Fatalf("%q: got %q, %d", s, once, e)
		}
		if e != api.OK {
			continue
		}
		if twice, e := name.Clean(once); twice != once || e != api.OK || name.Check(once) != api.OK {
			t.Fatalf("%q: got %q, and then %q, %d", s, once, twice, e)
		}
	}
}

// P11.5: names within one folder stand one behind the other, whatever names there are beside them.
func TestFolderIsOneRun(t *testing.T) {
	l := inOrder(t, many())
	dirs := append(folders("ab/", 4), folders("a-~./", 3)...)
	for _, p := range longNames(20, 10) {
		dir, _, e := name.Split(p)
		if e != api.OK {
			t.Fatalf("%q: got %d", p, e)
		}
		dirs = append(dirs, dir)
	}
	for _, dir := range dirs {
		runs, was := 0, false
		for _, p := range l {
			is, e := name.Within(dir, p)
			if e != api.OK {
				t.Fatalf("%q, %q: got %d", dir, p, e)
			}
			if is && !was {
				runs++
			}
			was = is
		}
		if runs > 1 {
			t.Errorf("%q: got %d runs", dir, runs)
		}
	}
}

// P11.5: a folder's name stands right ahead of all that is within it.
func TestFolderStandsAhead(t *testing.T) {
	l := inOrder(t, many())
	for i, dir := range l {
		inside := true
		for _, p := range l[i+1:] {
			is, e := name.Within(dir, p)
			if e != api.OK || is && !inside {
				t.Fatalf("%q, %q: %d", dir, p, e)
			}
			inside = is
		}
	}
}

// P11.4: of any three names that rise the first one is below the last one, each is the same as itself alone, and the other way round it is the other way.
func TestCmpIsAnOrder(t *testing.T) {
	l := inOrder(t, many())
	for i, a := range l {
		for k, b := range l {
			if got, e := name.Cmp(a, b); got != sign(i-k) || e != api.OK {
				t.Fatalf("%q, %q: got %d, %d, want %d", a, b, got, e, sign(i-k))
			}
		}
	}
}

// P11.4: names stand as their texts do, if slashes are less than all that may be in a part.
func TestCmpIsByOctets(t *testing.T) {
	l := many()
	slices.SortFunc(l, func(a, b string) int {
		return strings.Compare(strings.ReplaceAll(a, "/", " "), strings.ReplaceAll(b, "/", " "))
	})
	if got := inOrder(t, many()); !slices.Equal(got, l) {
		t.Errorf("got %q, want %q", got, l)
	}
}

// P11.2, P11.3: a name's folder, and its last part, are joined to it; it is within its folder, and stands behind it.
func TestJoinOfSplit(t *testing.T) {
	for _, p := range many() {
		dir, last, e := name.Split(p)
		if e != api.OK {
			t.Fatalf("%q: got %d", p, e)
		}
		if got, e := name.Join(dir, last); len(p) < api.MaxName && (got != p || e != api.OK) {
			t.Errorf("%q, %q: got %q, %d", dir, last, got, e)
		}
		if is, e := name.Within(dir, p); !is || e != api.OK {
			t.Errorf("%q, %q: got %t, %d", dir, p, is, e)
		}
		if dir == "" {
			continue
		}
		if c, e := name.Cmp(dir, p); c != -1 || e != api.OK {
			t.Errorf("%q, %q: got %d, %d", dir, p, c, e)
		}
	}
}
