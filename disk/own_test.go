package disk_test

import (
	"bytes"
	"testing"

	"tansy/api"
	"tansy/disk"
)

// scribble writes into all that a disk has, and behind each of its lists as far as there is room.
func scribble(d api.Disk) {
	fill := func(b []byte) {
		for i := range b {
			b[i] = 0xEE
		}
		for i := range cap(b) {
			b[:cap(b)][i] = 0xEE
		}
	}
	fill(d.Dry)
	for i := range d.Wet {
		fill(d.Wet[i].B)
		d.Wet[i].At = -9
	}
}

// answers are what all calls answer of a disk, a sector's octets, and masks.
func answers(t *testing.T, d api.Disk, b, masks []byte) []api.Disk {
	t.Helper()
	ok := must(t)
	read, e := disk.Read(d, 1)
	dried, f := disk.Read(d, 0)
	if e != api.OK || f != api.OK {
		t.Fatalf("got %d, %d", e, f)
	}
	return []api.Disk{
		ok(disk.Limit(d, 3)),
		ok(disk.Write(d, 0, b)),
		ok(disk.Write(d, 1, b)),
		ok(disk.Sync(d)),
		ok(disk.Crash(d, masks)),
		{Dry: read},
		{Dry: dried},
	}
}

// script is a disk with two wet pages, a sector's octets, and masks.
func script() (api.Disk, []byte, []byte) {
	d := api.Disk{Dry: dry(1, 2, 3), Wet: []api.Page{{At: 1, B: of(4)}, {At: 2, B: of(5)}}, Left: 7}
	return d, rising(60), []byte{3, 200}
}

// R2: no call changes what it is handed, nor what it answered, whoever writes into what was handed in behind it.
func TestHandedIn(t *testing.T) {
	d, b, masks := script()
	was := deep(d)
	got := answers(t, d, b, masks)
	disk.Check(d)
	disk.Same(d, d)
	wantDisk(t, "handed in", d, was)
	if !bytes.Equal(b, rising(60)) || !bytes.Equal(masks, []byte{3, 200}) {
		t.Errorf("got %v, %v", b, masks)
	}
	var want []api.Disk
	for _, x := range got {
		want = append(want, deep(x))
	}
	scribble(d)
	scribble(api.Disk{Dry: b})
	scribble(api.Disk{Dry: masks})
	for i, x := range got {
		wantDisk(t, "answer behind a scribble", x, want[i])
	}
}

// R2: room behind a list that is handed in is the caller's too: no call writes there.
func TestRoomBehind(t *testing.T) {
	d, b, masks := script()
	roomy := func(b []byte) []byte { return append(append([]byte(nil), b...), of(0xAA)...)[:len(b)] }
	d.Dry, b, masks = roomy(d.Dry), roomy(b), roomy(masks[:1])
	d.Wet = append(d.Wet, api.Page{At: 77}, api.Page{At: 88})[:2]
	lists := [][]byte{d.Dry, b, masks}
	for i := range d.Wet {
		d.Wet[i].B = roomy(d.Wet[i].B)
		lists = append(lists, d.Wet[i].B)
	}
	answers(t, d, b, masks)
	for i, l := range lists {
		if behind := l[len(l) : len(l)+api.Sector]; !bytes.Equal(behind, of(0xAA)) {
			t.Errorf("%d: got %v", i, behind)
		}
	}
	if w := d.Wet[:4]; w[2].At != 77 || w[3].At != 88 {
		t.Errorf("got %v", w)
	}
}

// R2: what is answered is the caller's own: writing into it reaches neither what was handed in, nor another answer.
func TestHandedOut(t *testing.T) {
	d, b, masks := script()
	was := deep(d)
	want := answers(t, was, rising(60), []byte{3, 200})
	for i := range want {
		got := answers(t, d, b, masks)
		scribble(got[i])
		wantDisk(t, "handed in", d, was)
		for j, x := range got {
			if j != i {
				wantDisk(t, "another answer", x, want[j])
			}
		}
	}
	if !bytes.Equal(b, rising(60)) || !bytes.Equal(masks, []byte{3, 200}) {
		t.Errorf("got %v, %v", b, masks)
	}
}

// R2: no two lists of one answer share anything: who appends to a page reaches no other page.
func TestPagesApart(t *testing.T) {
	d, b, _ := script()
	for _, call := range []func() (api.Disk, api.Errno){
		func() (api.Disk, api.Errno) { return disk.Limit(d, 3) },
		func() (api.Disk, api.Errno) { return disk.Write(d, 0, b) },
		func() (api.Disk, api.Errno) { return disk.Write(d, 2, b) },
	} {
		want := deep(must(t)(call()))
		for i := range want.Wet {
			got := must(t)(call())
			_ = append(got.Wet[i].B, of(0xEE)...)
			wantDisk(t, "appended to", got, want)
			scribble(api.Disk{Dry: got.Wet[i].B})
			got.Wet[i].B = want.Wet[i].B
			wantDisk(t, "written into", got, want)
		}
	}
}

// R2: a disk whose pages are pieces of its own dry octets, or of one another, is taken as what they say.
func TestPagesTogether(t *testing.T) {
	all := append(rising(0), rising(100)...)
	d := api.Disk{Dry: all, Wet: []api.Page{{At: 0, B: all[32:]}, {At: 1, B: all[:32]}}, Left: api.NoEnd}
	wantDisk(t, "synced", must(t)(disk.Sync(d)), api.Disk{Dry: append(rising(100), rising(0)...), Left: api.NoEnd})
	w := must(t)(disk.Write(d, 1, all[:32]))
	wantDisk(t, "written", w, api.Disk{Dry: append(rising(0), rising(100)...), Wet: []api.Page{{At: 0, B: rising(100)}, {At: 1, B: rising(0)}}, Left: api.NoEnd})
}

// R5: asked again, each call answers the same.
func TestAgain(t *testing.T) {
	d, b, masks := script()
	first, second := answers(t, d, b, masks), answers(t, d, b, masks)
	for i := range first {
		wantDisk(t, "again", second[i], first[i])
	}
}
