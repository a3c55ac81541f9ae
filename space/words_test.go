package space_test

import (
	"maps"
	"slices"

	"tansy/api"
)

// owner is what a sector is of: something free, given out, or waiting, by its place, or an extent of versions, by what it is.
type owner struct {
	kind, place int
	s           api.Extent
}

// The kinds of owners.
const (
	free = iota
	out
	waits
	needed
)

// isOf reads the words of an extent of so many sectors; numbers that are far beyond are told ahead of their sum.
func isOf(s api.Extent, size int) bool {
	return s.At >= 0 && s.At <= size && s.Len >= 1 && s.Len <= size && s.At+s.Len <= size
}

// isRow reads the words: each extent is held against all that are ahead of it.
func isRow(l []api.Extent, size int) bool {
	for i, s := range l {
		if !isOf(s, size) {
			return false
		}
		for _, r := range l[:i] {
			if s.At <= r.At || s.At < r.At+r.Len {
				return false
			}
		}
	}
	return true
}

// areFree reads the words of layer 2: of a row, no two touch.
func areFree(x api.Extents) bool {
	if x.Size < 0 || x.Size > 8192 || !isRow(x.Free, x.Size) {
		return false
	}
	for _, s := range x.Free {
		for _, r := range x.Free {
			if r.At+r.Len == s.At {
				return false
			}
		}
	}
	return true
}

// arePins reads the words of layer 17.
func arePins(l []api.Pin) bool {
	for i, p := range l {
		if i >= 64 || p.Gen > 1<<40 || p.N < 1 || p.N > 64 || i > 0 && p.Gen <= l[i-1].Gen {
			return false
		}
	}
	return true
}

// pinned tells whether a generation is one of pins.
func pinned(l []api.Pin, gen uint64) bool {
	return slices.ContainsFunc(l, func(p api.Pin) bool { return p.Gen == gen })
}

// isVersion tells whether there is one of a generation.
func isVersion(l []api.Version, gen uint64) bool {
	return slices.ContainsFunc(l, func(v api.Version) bool { return v.Gen == gen })
}

// areVersions reads the words of versions, and of those that are pinned.
func areVersions(x api.Space) bool {
	for i, v := range x.Vers {
		if v.Gen > 1<<40 || !isRow(v.S, x.X.Size) || i > 0 && v.Gen <= x.Vers[i-1].Gen {
			return false
		}
		if i < len(x.Vers)-1 && !pinned(x.Pins, v.Gen) {
			return false
		}
	}
	for _, p := range x.Pins {
		if !isVersion(x.Vers, p.Gen) {
			return false
		}
	}
	return len(x.Vers) > 0
}

// owners are, for each sector, what it is of.
func owners(x api.Space) []map[owner]int {
	all := make([]map[owner]int, x.X.Size)
	for at := range all {
		all[at] = map[owner]int{}
	}
	count := func(o owner) {
		for at := o.s.At; at < o.s.At+o.s.Len; at++ {
			all[at][o]++
		}
	}
	for kind, l := range [][]api.Extent{free: x.X.Free, out: x.Out, waits: x.Queue} {
		for i, s := range l {
			count(owner{kind: kind, place: i, s: s})
		}
	}
	for _, v := range x.Vers {
		for _, s := range v.S {
			count(owner{kind: needed, s: s})
		}
	}
	return all
}

// mayBe reads the words of space.
func mayBe(x api.Space) bool {
	if x.X.Size < 3 || !areFree(x.X) || !arePins(x.Pins) || !areVersions(x) || !isRow(x.Out, x.X.Size) {
		return false
	}
	for _, s := range x.Queue {
		if !isOf(s, x.X.Size) {
			return false
		}
	}
	for at, o := range owners(x) {
		if at < 2 && len(o) != 0 || at >= 2 && len(o) != 1 {
			return false
		}
	}
	return true
}

// deep is space in new memory.
func deep(x api.Space) api.Space {
	y := x
	y.X.Free, y.Out, y.Pins, y.Queue = slices.Clone(x.X.Free), slices.Clone(x.Out), slices.Clone(x.Pins), slices.Clone(x.Queue)
	y.Vers = slices.Clone(x.Vers)
	for i := range y.Vers {
		y.Vers[i].S = slices.Clone(x.Vers[i].S)
	}
	return y
}

// alike tells whether all parts of two are the same, lists without elements too.
func alike(a, b api.Space) bool {
	if len(a.Vers) != len(b.Vers) {
		return false
	}
	for i, v := range a.Vers {
		if v.Gen != b.Vers[i].Gen || !slices.Equal(v.S, b.Vers[i].S) {
			return false
		}
	}
	return a.X.Size == b.X.Size && slices.Equal(a.X.Free, b.X.Free) && slices.Equal(a.Out, b.Out) &&
		slices.Equal(a.Pins, b.Pins) && slices.Equal(a.Queue, b.Queue)
}

// bare tells whether space is all zero.
func bare(x api.Space) bool { return alike(x, api.Space{}) }

// which tells of each sector whether it is free.
func which(x api.Extents) []bool {
	l := make([]bool, x.Size)
	for _, s := range x.Free {
		for at := s.At; at < s.At+s.Len; at++ {
			l[at] = true
		}
	}
	return l
}

// told are the free extents of sectors, behind those of s being so.
func told(l []bool, s api.Extent, so bool) api.Extents {
	for at := s.At; at < s.At+s.Len; at++ {
		l[at] = so
	}
	x := api.Extents{Size: len(l)}
	for at := 0; at < len(l); at++ {
		from := at
		for at < len(l) && l[at] {
			at++
		}
		if at > from {
			x.Free = append(x.Free, of(from, at-from))
		}
	}
	return x
}

// rising are extents, put in order by where they are.
func rising(l []api.Extent) []api.Extent {
	l = slices.Clone(l)
	for i := range l {
		for j := i; j > 0 && l[j].At < l[j-1].At; j-- {
			l[j], l[j-1] = l[j-1], l[j]
		}
	}
	return l
}

// less are extents without one.
func less(l []api.Extent, s api.Extent) []api.Extent {
	var left []api.Extent
	for _, r := range l {
		if r != s {
			left = append(left, r)
		}
	}
	return left
}

// wantTake reads the words of P18.2.
func wantTake(x api.Space, n int) (api.Extent, api.Space, api.Errno) {
	if !mayBe(x) || n < 1 {
		return api.Extent{}, api.Space{}, api.ErrArg
	}
	x = deep(x)
	l := which(x.X)
	for at := 0; n <= len(l) && at+n <= len(l); at++ {
		if !slices.Contains(l[at:at+n], false) {
			s := of(at, n)
			x.X = told(l, s, false)
			x.Out = rising(append(x.Out, s))
			return s, x, api.OK
		}
	}
	return api.Extent{}, api.Space{}, api.ErrFull
}

// wantDrop reads the words of P18.2.
func wantDrop(x api.Space, s api.Extent) (api.Space, api.Errno) {
	if !mayBe(x) {
		return api.Space{}, api.ErrArg
	}
	if !slices.Contains(x.Out, s) {
		return api.Space{}, api.ErrNone
	}
	x = deep(x)
	x.X = told(which(x.X), s, true)
	x.Out = less(x.Out, s)
	return x, api.OK
}

// wantCommit reads the words of P18.3.
func wantCommit(x api.Space, gen uint64, l []api.Extent) (api.Space, api.Errno) {
	if !mayBe(x) {
		return api.Space{}, api.ErrArg
	}
	last := x.Vers[len(x.Vers)-1]
	if gen <= last.Gen || gen > 1<<40 || !isRow(l, x.X.Size) {
		return api.Space{}, api.ErrArg
	}
	x = deep(x)
	for _, s := range l {
		if !slices.Contains(x.Out, s) && !slices.Contains(last.S, s) {
			return api.Space{}, api.ErrNone
		}
	}
	for _, s := range l {
		x.Out = less(x.Out, s)
	}
	x.Vers = append(x.Vers, api.Version{Gen: gen, S: slices.Clone(l)})
	return pruned(x), api.OK
}

// pruned reads the words of what it is to prune.
func pruned(x api.Space) api.Space {
	var left, gone []api.Version
	for i, v := range x.Vers {
		if i == len(x.Vers)-1 || pinned(x.Pins, v.Gen) {
			left = append(left, v)
		} else {
			gone = append(gone, v)
		}
	}
	var behind []api.Extent
	for _, v := range gone {
		for _, s := range v.S {
			needed := slices.ContainsFunc(left, func(v api.Version) bool { return slices.Contains(v.S, s) })
			if !needed && !slices.Contains(behind, s) {
				behind = append(behind, s)
			}
		}
	}
	x.Vers, x.Queue = left, append(x.Queue, rising(behind)...)
	return x
}

// tally is how often each generation is pinned.
func tally(l []api.Pin) map[uint64]int {
	m := map[uint64]int{}
	for _, p := range l {
		m[p.Gen] += p.N
	}
	return m
}

// pinsOf are the pins of a tally.
func pinsOf(m map[uint64]int) []api.Pin {
	var l []api.Pin
	for _, g := range slices.Sorted(maps.Keys(m)) {
		if m[g] > 0 {
			l = append(l, api.Pin{Gen: g, N: m[g]})
		}
	}
	return l
}

// wantPin reads the words of P18.4.
func wantPin(x api.Space, gen uint64) (api.Space, api.Errno) {
	if !mayBe(x) {
		return api.Space{}, api.ErrArg
	}
	if !isVersion(x.Vers, gen) {
		return api.Space{}, api.ErrNone
	}
	x = deep(x)
	m := tally(x.Pins)
	if m[gen] == 64 || m[gen] == 0 && len(m) == 64 {
		return api.Space{}, api.ErrFull
	}
	m[gen]++
	x.Pins = pinsOf(m)
	return x, api.OK
}

// wantUnpin reads the words of P18.4.
func wantUnpin(x api.Space, gen uint64) (api.Space, api.Errno) {
	if !mayBe(x) || gen > 1<<40 {
		return api.Space{}, api.ErrArg
	}
	x = deep(x)
	m := tally(x.Pins)
	if m[gen] == 0 {
		return api.Space{}, api.ErrNone
	}
	m[gen]--
	x.Pins = pinsOf(m)
	return pruned(x), api.OK
}

// wantStep reads the words of P18.5.
func wantStep(x api.Space) (api.Space, api.Errno) {
	if !mayBe(x) {
		return api.Space{}, api.ErrArg
	}
	if len(x.Queue) == 0 {
		return api.Space{}, api.ErrNone
	}
	x = deep(x)
	x.X = told(which(x.X), x.Queue[0], true)
	x.Queue = x.Queue[1:]
	return x, api.OK
}

// wantUsed reads the words of P18.1.
func wantUsed(x api.Space) (int, api.Errno) {
	if !mayBe(x) {
		return 0, api.ErrArg
	}
	n := 0
	for at, is := range which(x.X) {
		if at >= 2 && !is {
			n++
		}
	}
	return n, api.OK
}
