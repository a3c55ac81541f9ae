package space_test

import (
	"math/rand/v2"
	"slices"
	"testing"

	"tansy/api"
	"tansy/space"
)

// session is space in a long script, and what is done with it by chance.
type session struct {
	t *testing.T
	r *rand.Rand
	x api.Space
}

// next takes it that what comes of a call is as the words say, and goes on from there, if it is no error.
func (s *session) next(what string, got, want api.Space, e, wantE api.Errno) {
	s.t.Helper()
	like(s.t, what, s.x, got, want, e, wantE)
	if e == api.OK {
		s.x = got
	}
	if !mayBe(s.x) || space.Check(s.x) != api.OK {
		s.t.Fatalf("%s: %v may not be", what, s.x)
	}
}

// take takes at most so many sectors.
func (s *session) take(most int) {
	n := 1 + s.r.IntN(most)
	_, want, wantE := wantTake(s.x, n)
	_, got, e := space.Take(s.x, n)
	s.next("Take", got, want, e, wantE)
}

// drop drops one of what is given out.
func (s *session) drop() {
	if len(s.x.Out) == 0 {
		return
	}
	o := s.x.Out[s.r.IntN(len(s.x.Out))]
	want, wantE := wantDrop(s.x, o)
	got, e := space.Drop(s.x, o)
	s.next("Drop", got, want, e, wantE)
}

// commit commits some of what is given out, and some of what is needed.
func (s *session) commit() {
	last := s.x.Vers[len(s.x.Vers)-1]
	var l []api.Extent
	for _, e := range slices.Concat(s.x.Out, last.S) {
		if s.r.IntN(4) > 0 {
			l = append(l, e)
		}
	}
	gen := last.Gen + 1 + s.r.Uint64N(3)
	want, wantE := wantCommit(s.x, gen, rising(l))
	got, e := space.Commit(s.x, gen, rising(l))
	s.next("Commit", got, want, e, wantE)
}

// pin pins a version, mostly the last one.
func (s *session) pin() {
	i := len(s.x.Vers) - 1
	if s.r.IntN(3) == 0 {
		i = s.r.IntN(i + 1)
	}
	gen := s.x.Vers[i].Gen
	want, wantE := wantPin(s.x, gen)
	got, e := space.Pin(s.x, gen)
	s.next("Pin", got, want, e, wantE)
}

// unpin lets go of one that is pinned.
func (s *session) unpin() {
	if len(s.x.Pins) == 0 {
		return
	}
	gen := s.x.Pins[s.r.IntN(len(s.x.Pins))].Gen
	want, wantE := wantUnpin(s.x, gen)
	got, e := space.Unpin(s.x, gen)
	s.next("Unpin", got, want, e, wantE)
}

// step lets one that waits be free.
func (s *session) step() {
	want, wantE := wantStep(s.x)
	got, e := space.Step(s.x)
	s.next("Step", got, want, e, wantE)
}

// settle lets go of all that is pinned, and given out, and takes as many steps as wait: just what the last version needs is used then.
func (s *session) settle() {
	s.t.Helper()
	for len(s.x.Pins) > 0 {
		s.unpin()
	}
	for len(s.x.Out) > 0 {
		s.drop()
	}
	for range len(s.x.Queue) {
		s.step()
	}
	if len(s.x.Vers) != 1 || len(s.x.Queue) != 0 {
		s.t.Fatalf("got %v", s.x)
	}
	sum := 0
	for _, e := range s.x.Vers[0].S {
		sum += e.Len
	}
	if n, e := space.Used(s.x); n != sum || e != api.OK {
		s.t.Fatalf("%v: got %d, %d, want %d", s.x, n, e, sum)
	}
}

// P18.6: each sector is of one thing, whatever is done, in long scripts of all calls; when all is let go of, just what the last version needs is used.
func TestScripts(t *testing.T) {
	for i, size := range []int{3, 4, 6, 10, 30, 100, 300} {
		x, _ := space.New(size)
		s := session{t: t, r: rand.New(rand.NewPCG(18, uint64(i))), x: x}
		for range 6000 / (1 + size/30) {
			switch s.r.IntN(12) {
			case 0, 1, 2:
				s.take(1 + size/10)
			case 3:
				s.drop()
			case 4, 5:
				s.commit()
			case 6, 7:
				s.pin()
			case 8, 9:
				s.unpin()
			case 10:
				s.step()
			default:
				if s.r.IntN(20) == 0 {
					s.settle()
				}
			}
		}
		s.settle()
	}
}

// P18.6: with as many versions pinned as may be, and more that would be.
func TestScriptsFull(t *testing.T) {
	x, _ := space.New(200)
	s := session{t: t, r: rand.New(rand.NewPCG(18, 66)), x: x}
	most := 0
	for range 3 {
		for range 80 {
			s.take(2)
			s.commit()
			s.pin()
			s.pin()
			s.step()
			most = max(most, len(s.x.Pins))
		}
		s.settle()
	}
	if most != 64 {
		t.Errorf("at most %d were pinned", most)
	}
}

// P18.6: what a pinned version needs is given out to nobody, however often there are commits behind it, till it is pinned no more.
func TestPinnedStays(t *testing.T) {
	x, _ := space.New(12)
	s, x, _ := space.Take(x, 4)
	x, _ = space.Commit(x, 1, []api.Extent{s})
	x, e := space.Pin(x, 1)
	for gen := range uint64(50) {
		o, y, f := space.Take(x, 3)
		if e != api.OK || f != api.OK || o.At < s.At+s.Len {
			t.Fatalf("%d: got %v, %v, %d, %d", gen, o, y, e, f)
		}
		if x, e = space.Commit(y, 2+gen, []api.Extent{o}); e != api.OK || !slices.Equal(x.Vers[0].S, []api.Extent{s}) {
			t.Fatalf("%d: got %v, %d", gen, x, e)
		}
		for len(x.Queue) > 0 {
			x, _ = space.Step(x)
		}
	}
	if n, e := space.Used(x); n != 7 || e != api.OK {
		t.Errorf("got %d, %d", n, e)
	}
	x, e = space.Unpin(x, 1)
	if !slices.Equal(x.Queue, []api.Extent{s}) || e != api.OK {
		t.Errorf("got %v, %d", x, e)
	}
	x, e = space.Step(x)
	if n, f := space.Used(x); n != 3 || e != api.OK || f != api.OK {
		t.Errorf("got %d, %d, %d", n, e, f)
	}
}

// P18.6: of as many sectors as there may be, with 64 versions that need each of them by itself, all is as it should be, and each call ends soon.
func TestGreatest(t *testing.T) {
	x, _ := space.New(8192)
	var l []api.Extent
	x.X.Free = nil
	for at := 2; at < 8192; at++ {
		l = append(l, of(at, 1))
	}
	x.Out = l
	e := api.OK
	for gen := range uint64(64) {
		x, e = space.Commit(x, gen+1, l)
		if x, e = space.Pin(x, gen+1); e != api.OK {
			t.Fatalf("%d: got %d", gen, e)
		}
	}
	x, e = space.Commit(x, 65, l[:1])
	if len(x.Vers) != 65 || e != api.OK {
		t.Fatalf("got %d", e)
	}
	for gen := range uint64(64) {
		if len(x.Queue) != 0 {
			t.Fatalf("%d: waits", gen)
		}
		if x, e = space.Unpin(x, gen+1); e != api.OK {
			t.Fatalf("%d: got %d", gen, e)
		}
	}
	if !slices.Equal(x.Queue, l[1:]) {
		t.Fatalf("%d wait", len(x.Queue))
	}
	for i := range l[1:] {
		if x, e = space.Step(x); e != api.OK {
			t.Fatalf("%d: got %d", i, e)
		}
	}
	want := api.Space{X: api.Extents{Size: 8192, Free: []api.Extent{of(3, 8189)}}, Vers: []api.Version{ver(65, of(2, 1))}}
	if !alike(x, want) {
		t.Errorf("got %v", x)
	}
}
