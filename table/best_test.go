package table_test

import (
	"math/rand/v2"
	"slices"
	"testing"

	"tansy/api"
	"tansy/table"
)

// height is where a rank stands among the ranks; what is no number stands at one place.
func height(f api.File) int {
	at := slices.IndexFunc(ranks(), func(r float64) bool { return is(api.File{Rank: r}, api.File{Rank: f.Rank}) })
	return min(at, len(ranks())-nones)
}

// bestOf are a table's files as Best is to tell them: of each height, from the greatest on, those that have it, as they stand.
func bestOf(l []api.File) []api.File {
	var best []api.File
	for h := len(ranks()); h >= 0; h-- {
		for _, f := range l {
			if height(f) == h {
				best = append(best, f)
			}
		}
	}
	return best
}

// P13.3: the greatest rank is the first one, at all ends: what is no number, infinity, and so on, with 0 ahead of -0.
func TestBestKnown(t *testing.T) {
	l := full(len(ranks()))
	for i, r := range ranks() {
		l[i].Rank = r
	}
	got, e := table.Best(l)
	if e != api.OK || len(got) != len(l) {
		t.Fatalf("got %d files, %d", len(got), e)
	}
	// What is no number is one, so that those stand in order of their names.
	numbers := len(l) - nones
	want := slices.Clone(l[numbers:])
	for _, f := range slices.Backward(l[:numbers]) {
		want = append(want, f)
	}
	if !are(got, want) {
		t.Errorf("got %v, want %v", got, want)
	}
	for _, l := range [][]api.File{nil, {}} {
		if got, e := table.Best(l); len(got) != 0 || e != api.OK {
			t.Errorf("got %v, %d", got, e)
		}
	}
}

// P13.3: of all tables of up to four files of a few ranks, those of one rank among them.
func TestBestFew(t *testing.T) {
	all := ranks()
	p := []string{"a", "a/b", "a-", "b"}
	lists := [][]api.File{nil}
	for at := 0; at < len(lists); at++ {
		l := lists[at]
		if got, e := table.Best(l); !are(got, bestOf(l)) || e != api.OK {
			t.Fatalf("%v: got %v, %d", l, got, e)
		}
		if len(l) == len(p) {
			continue
		}
		for _, r := range []float64{all[0], all[4], all[5], all[7], all[10], all[11], all[12]} {
			lists = append(lists, append(slices.Clone(l), api.File{Name: p[len(l)], Rank: r, Blk: len(l)}))
		}
	}
}

// P13.3: those of one rank are told by their names, the first one first, in tables of any length, and though others stand between.
func TestBest(t *testing.T) {
	x := rand.New(rand.NewPCG(1, 13))
	for _, n := range []int{1, 2, 3, 12, 13, 20, 100, 255, 256} {
		for _, kinds := range []int{1, 2, 3, len(ranks())} {
			for range 10 {
				l := full(n)
				for i := range l {
					l[i].Rank = ranks()[len(ranks())-1-x.IntN(kinds)]
				}
				got, e := table.Best(l)
				if e != api.OK || !are(got, bestOf(l)) {
					t.Fatalf("%v: got %v, %d", l, got, e)
				}
				if table.Check(l) != api.OK {
					t.Fatal("the table is none behind it")
				}
			}
		}
	}
}

// P13.3: Best is ErrArg of what is no table.
func TestBestArg(t *testing.T) {
	for _, l := range noTables() {
		if got, e := table.Best(l); len(got) != 0 || e != api.ErrArg {
			t.Errorf("%.3v: got %v, %d", l, got, e)
		}
	}
}
