package prob_test

import (
	"testing"

	"tansy/api"
	"tansy/prob"
)

// P5.4: a chance stays one, whatever bit it learns.
func TestStaysChance(t *testing.T) {
	for p := 31; p <= 2017; p++ {
		for _, b := range []bool{false, true} {
			got, e := prob.Learn(p, b)
			if e != api.OK || got < 31 || got > 2017 || prob.Check([]int{got}) != api.OK {
				t.Errorf("%d, %v: got %d, %d", p, b, got, e)
			}
		}
	}
}

// P5.4: so it is of many bits, one after the other: chances reach both ends, from wherever they begin, and stay there.
func TestStaysChances(t *testing.T) {
	for _, b := range []bool{false, true} {
		end := 2017
		if b {
			end = 31
		}
		var l []api.Bit
		for range 300 {
			l = append(l, api.Bit{B: b})
		}
		for p := 31; p <= 2017; p++ {
			got, e := prob.All([]int{p}, l)
			if e != api.OK || len(got) != 1 || got[0] != end {
				t.Errorf("%d, %v: got %v, %d, want %d", p, b, got, e, end)
			}
		}
	}
	for seed := range 40 {
		got, e := prob.All(chances(seed, 7), bits(seed, 5000, 7))
		if e != api.OK || len(got) != 7 || prob.Check(got) != api.OK {
			t.Errorf("%d: got %v, %d", seed, got, e)
		}
	}
}

// P5.4: of each span both parts are at least 31 times 8192.
func TestParts(t *testing.T) {
	for _, span := range spans() {
		for p := 31; p <= 2017; p++ {
			part, e := prob.Split(span, p)
			if e != api.OK || part < 31*8192 || part > span || span-part < 31*8192 {
				t.Fatalf("%d by %d: got %d, %d", span, p, part, e)
			}
		}
	}
}

// P5.4: a bit that comes makes its own chance no smaller: behind it, its part of a span is no smaller either.
func TestOwnChance(t *testing.T) {
	for p := 31; p <= 2017; p++ {
		off, _ := prob.Learn(p, false)
		on, _ := prob.Learn(p, true)
		if off < p || on > p {
			t.Errorf("%d: got %d, not set, and %d, set", p, off, on)
		}
		for _, span := range spans() {
			part, _ := prob.Split(span, p)
			behindOff, e := prob.Split(span, off)
			behindOn, f := prob.Split(span, on)
			if e != api.OK || f != api.OK || behindOff < part || span-behindOn < span-part {
				t.Fatalf("%d by %d: got %d, not set, %d, %d, set, %d", span, p, behindOff, e, behindOn, f)
			}
		}
	}
}
