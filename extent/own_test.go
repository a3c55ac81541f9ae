package extent_test

import (
	"testing"

	"tansy/api"
	"tansy/extent"
)

// calls are all calls that answer extents, with arguments at which they change the first, a middle, and the last free extent.
func calls() []func(api.Extents) (api.Extents, api.Errno) {
	take := func(n int) func(api.Extents) (api.Extents, api.Errno) {
		return func(x api.Extents) (api.Extents, api.Errno) {
			_, y, e := extent.Take(x, n)
			return y, e
		}
	}
	keep := func(s api.Extent) func(api.Extents) (api.Extents, api.Errno) {
		return func(x api.Extents) (api.Extents, api.Errno) { return extent.Keep(x, s) }
	}
	give := func(s api.Extent) func(api.Extents) (api.Extents, api.Errno) {
		return func(x api.Extents) (api.Extents, api.Errno) { return extent.Give(x, s) }
	}
	return []func(api.Extents) (api.Extents, api.Errno){
		take(1), take(2), take(3), take(6),
		keep(of(1, 2)), keep(of(6, 1)), keep(of(12, 6)), keep(of(17, 1)),
		give(of(0, 1)), give(of(3, 2)), give(of(4, 1)), give(of(9, 1)), give(of(10, 1)), give(of(18, 2)), give(of(19, 1)),
	}
}

func script() api.Extents { return free(20, 1, 2, 5, 3, 12, 6) }

// scribble writes into a list, and into the room behind it.
func scribble(l []api.Extent) {
	l = l[:cap(l)]
	for i := range l {
		l[i] = of(-7, -7)
	}
}

// R2: no call changes what it is handed, nor what it answered, whoever writes into what was handed in behind it, or into another answer.
func TestOwn(t *testing.T) {
	for i, call := range calls() {
		x := script()
		wanted := deep(must(t)(call(script())))
		got := must(t)(call(x))
		want(t, "handed in", x, script())
		other := must(t)(call(x))
		scribble(x.Free)
		want(t, "answer behind a scribble", got, wanted)
		scribble(other.Free)
		want(t, "answer behind a scribble into another", got, wanted)
		x = script()
		scribble(must(t)(call(x)).Free)
		want(t, "handed in, behind a scribble", x, script())
		if t.Failed() {
			t.Fatalf("call %d", i)
		}
	}
}

// R2: room behind a list that is handed in is the caller's too: no call writes there.
func TestRoomBehind(t *testing.T) {
	for i, call := range calls() {
		for n := 1; n <= 3; n++ {
			l := append(script().Free, of(77, 1), of(88, 1), of(99, 1))
			was := append([]api.Extent(nil), l...)
			call(api.Extents{Size: 20, Free: l[:n]})
			for j := range l {
				if l[j] != was[j] {
					t.Errorf("call %d of %d: got %v", i, n, l)
				}
			}
		}
	}
}

// R5: asked again, each call answers the same; so does New.
func TestAgain(t *testing.T) {
	for _, call := range calls() {
		want(t, "again", must(t)(call(script())), must(t)(call(script())))
	}
	x := must(t)(extent.New(5))
	scribble(x.Free)
	want(t, "new again", must(t)(extent.New(5)), free(5, 0, 5))
}
