package table_test

import (
	"maps"
	"math/rand/v2"
	"slices"
	"strings"
	"testing"

	"tansy/api"
	"tansy/table"
)

// known is a map of names, which a table is to have just the same as.
type known map[string]api.File

// list is the table that has what the map has.
func (m known) list() []api.File {
	var l []api.File
	for _, p := range inOrder(slices.Collect(maps.Keys(m))) {
		l = append(l, m[p])
	}
	return l
}

// of is the map of a table's files.
func of(l []api.File) known {
	m := known{}
	for _, f := range l {
		m[f.Name] = f
	}
	return m
}

// put, del and move are what is to become of the map, and the error.
func (m known) put(f api.File) (known, api.Errno) {
	if _, there := m[f.Name]; !there && len(m) == 256 {
		return nil, api.ErrFull
	}
	m = maps.Clone(m)
	m[f.Name] = f
	return m, api.OK
}

func (m known) del(p string) (known, api.Errno) {
	if _, there := m[p]; !there {
		return nil, api.ErrNone
	}
	m = maps.Clone(m)
	delete(m, p)
	return m, api.OK
}

func (m known) move(from, to string) (known, api.Errno) {
	f, there := m[from]
	if !there {
		return nil, api.ErrNone
	}
	if _, there := m[to]; there && from != to {
		return nil, api.ErrThere
	}
	m = maps.Clone(m)
	delete(m, from)
	f.Name = to
	m[to] = f
	return m, api.OK
}

// within is what the map has within a folder.
func (m known) within(dir string) []api.File {
	inside := known{}
	for p, f := range m {
		if dir == "" || strings.HasPrefix(p, dir+"/") {
			inside[p] = f
		}
	}
	return inside.list()
}

// holdChange holds what a table has become, and the error, against what is to become of the map.
func holdChange(t *testing.T, got []api.File, e api.Errno, m known, f api.Errno) {
	t.Helper()
	if !are(got, m.list()) || e != f {
		t.Fatalf("got %v, %d, want %v, %d", got, e, m.list(), f)
	}
	if e == api.OK && table.Check(got) != api.OK {
		t.Fatalf("%v is no table", got)
	}
}

// holdAsked holds all that is asked of a table by a name against the map.
func holdAsked(t *testing.T, l []api.File, m known, p string) {
	t.Helper()
	want, there := m[p]
	got, e := table.Get(l, p)
	if !is(got, want) || (e == api.OK) != there || !there && e != api.ErrNone {
		t.Fatalf("%q: got %v, %d, want %v", p, got, e, want)
	}
	if got, e := table.Within(l, p); !are(got, m.within(p)) || e != api.OK {
		t.Fatalf("%q: got %v, %d, want %v", p, got, e, m.within(p))
	}
}

// P13.4: all tables of six names, and each change by each name, are as the map is.
func TestMapFew(t *testing.T) {
	six := []string{"a", "a/b", "a/b/c", "a-", "ab", "b"}
	for set := range 1 << len(six) {
		var l []api.File
		for i, p := range six {
			if set>>i&1 == 1 {
				l = append(l, file(p, set*7+i))
			}
		}
		m := of(l)
		for i, p := range six {
			holdAsked(t, l, m, p)
			f := file(p, set+i*1000)
			got, e := table.Put(l, f)
			want, w := m.put(f)
			holdChange(t, got, e, want, w)
			got, e = table.Del(l, p)
			want, w = m.del(p)
			holdChange(t, got, e, want, w)
			for _, to := range six {
				got, e = table.Move(l, p, to)
				want, w = m.move(p, to)
				holdChange(t, got, e, want, w)
			}
		}
		if got, e := table.Within(l, ""); !are(got, l) || e != api.OK {
			t.Fatalf("got %v, %d", got, e)
		}
	}
}

// many are so many clean names by chance, many of which begin alike, which follow from seed alone.
func many(seed uint64, n int) []string {
	x := rand.New(rand.NewPCG(seed, 13))
	parts := []string{"a", "b", "a-", "ab", "!", "...", "~", strings.Repeat("c", 20)}
	got := map[string]bool{}
	for len(got) < n {
		p := parts[x.IntN(len(parts))]
		for x.IntN(3) > 0 && len(p) < 70 {
			p += "/" + parts[x.IntN(len(parts))]
		}
		got[p] = true
	}
	return inOrder(slices.Collect(maps.Keys(got)))
}

// P13.4: in long scripts a table has just what the map has, behind each change, also when it is full.
func TestMap(t *testing.T) {
	for seed, names := range map[uint64]int{1: 3, 2: 20, 3: 100, 4: 300, 5: 600} {
		x := rand.New(rand.NewPCG(seed, 14))
		all := many(seed, names)
		one := func() string { return all[x.IntN(len(all))] }
		var l []api.File
		m := known{}
		for step := range 1500 {
			var got []api.File
			var want known
			var e, w api.Errno
			switch p, to := one(), one(); x.IntN(6) {
			default:
				f := file(p, step)
				got, e = table.Put(l, f)
				want, w = m.put(f)
			case 0:
				got, e = table.Del(l, p)
				want, w = m.del(p)
			case 1, 2:
				got, e = table.Move(l, p, to)
				want, w = m.move(p, to)
			}
			holdChange(t, got, e, want, w)
			if e == api.OK {
				l, m = got, want
			}
			holdAsked(t, l, m, one())
		}
		if best, e := table.Best(l); !are(best, bestOf(m.list())) || e != api.OK {
			t.Fatalf("got %v, %d", best, e)
		}
		if names > 300 && len(l) != 256 {
			t.Errorf("%d names came to %d files only", names, len(l))
		}
	}
}

// P13.4: it does not count in which order files were put in; what was put in and taken out again leaves nothing.
func TestOrderOfPuts(t *testing.T) {
	x := rand.New(rand.NewPCG(2, 13))
	want := tableOf(many(6, 200)...)
	for range 20 {
		l := full(40)
		for _, i := range x.Perm(len(want)) {
			var e api.Errno
			if l, e = table.Put(l, want[i]); e != api.OK {
				t.Fatalf("got %d", e)
			}
		}
		for _, i := range x.Perm(40) {
			var e api.Errno
			if l, e = table.Del(l, number(i)); e != api.OK {
				t.Fatalf("got %d", e)
			}
		}
		if !are(l, want) || !table.Same(l, want) {
			t.Fatalf("got %v", l)
		}
	}
}
