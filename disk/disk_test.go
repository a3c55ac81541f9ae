package disk_test

import (
	"bytes"
	"math"
	"testing"

	"tansy/api"
	"tansy/disk"
)

// of is a sector of one octet, again and again.
func of(c byte) []byte { return bytes.Repeat([]byte{c}, api.Sector) }

// rising is a sector whose octets are all different: first, first+1, and so on.
func rising(first byte) []byte {
	b := make([]byte, api.Sector)
	for i := range b {
		b[i] = first + byte(i)
	}
	return b
}

// dry is a disk's dry octets: a sector of each of those octets.
func dry(cs ...byte) []byte {
	var b []byte
	for _, c := range cs {
		b = append(b, of(c)...)
	}
	return b
}

// must is the disk, if there is no error.
func must(t *testing.T) func(api.Disk, api.Errno) api.Disk {
	return func(d api.Disk, e api.Errno) api.Disk {
		t.Helper()
		if e != api.OK {
			t.Fatalf("got error %d", e)
		}
		return d
	}
}

// wantDisk holds a disk against what it is to be, part by part, without disk.Same.
func wantDisk(t *testing.T, what string, got, want api.Disk) {
	t.Helper()
	if !bytes.Equal(got.Dry, want.Dry) {
		t.Errorf("%s: dry is %v, want %v", what, got.Dry, want.Dry)
	}
	if got.Left != want.Left {
		t.Errorf("%s: left is %d, want %d", what, got.Left, want.Left)
	}
	if len(got.Wet) != len(want.Wet) {
		t.Errorf("%s: wet is %v, want %v", what, got.Wet, want.Wet)
		return
	}
	for i, p := range got.Wet {
		if p.At != want.Wet[i].At || !bytes.Equal(p.B, want.Wet[i].B) {
			t.Errorf("%s: page %d is %v, want %v", what, i, p, want.Wet[i])
		}
	}
}

// zero tells whether a disk is the one that goes with an error.
func zero(d api.Disk) bool { return len(d.Dry) == 0 && len(d.Wet) == 0 && d.Left == 0 }

// deep is a copy of a disk that shares nothing with it.
func deep(d api.Disk) api.Disk {
	c := api.Disk{Dry: append([]byte(nil), d.Dry...), Left: d.Left}
	for _, p := range d.Wet {
		c.Wet = append(c.Wet, api.Page{At: p.At, B: append([]byte(nil), p.B...)})
	}
	return c
}

// named is a disk with a name for what is told of it.
type named struct {
	what string
	d    api.Disk
}

// good are disks that may be, at the edges of what may.
func good() []named {
	full := api.Disk{Dry: dry(1, 2, 3), Left: api.NoEnd}
	for at := range 3 {
		full.Wet = append(full.Wet, api.Page{At: at, B: of(byte(9 + at))})
	}
	return []named{
		{"one sector", api.Disk{Dry: dry(7), Left: api.NoEnd}},
		{"at its end", api.Disk{Dry: dry(7)}},
		{"most deeds", api.Disk{Dry: dry(7), Left: api.MaxDeeds}},
		{"most sectors", api.Disk{Dry: make([]byte, api.MaxSectors*api.Sector), Left: api.NoEnd}},
		{"last of most wet", api.Disk{Dry: make([]byte, api.MaxSectors*api.Sector), Wet: []api.Page{{At: api.MaxSectors - 1, B: of(1)}}, Left: 1}},
		{"no page, not nil", api.Disk{Dry: dry(7, 8), Wet: []api.Page{}, Left: 2}},
		{"all wet", full},
		{"first and last wet", api.Disk{Dry: dry(1, 2, 3), Wet: []api.Page{{At: 0, B: of(4)}, {At: 2, B: of(5)}}, Left: 3}},
	}
}

// bad are disks that may not be, each for one reason alone.
func bad() []named {
	page := func(at, long int) api.Page { return api.Page{At: at, B: make([]byte, long)} }
	with := func(wet ...api.Page) api.Disk { return api.Disk{Dry: dry(1, 2, 3), Wet: wet, Left: api.NoEnd} }
	return []named{
		{"nothing", api.Disk{}},
		{"no sector", api.Disk{Dry: []byte{}, Left: api.NoEnd}},
		{"an octet too few", api.Disk{Dry: make([]byte, 31), Left: api.NoEnd}},
		{"an octet too many", api.Disk{Dry: make([]byte, 65), Left: api.NoEnd}},
		{"a sector too many", api.Disk{Dry: make([]byte, (api.MaxSectors+1)*api.Sector), Left: api.NoEnd}},
		{"an octet above the most", api.Disk{Dry: make([]byte, api.MaxSectors*api.Sector+1), Left: api.NoEnd}},
		{"left -2", api.Disk{Dry: dry(1), Left: -2}},
		{"left least", api.Disk{Dry: dry(1), Left: math.MinInt}},
		{"left above the most", api.Disk{Dry: dry(1), Left: api.MaxDeeds + 1}},
		{"left greatest", api.Disk{Dry: dry(1), Left: math.MaxInt}},
		{"page before the first", with(page(-1, 32))},
		{"page far before the first", with(page(math.MinInt, 32))},
		{"page behind the last", with(page(3, 32))},
		{"page far behind the last", with(page(0, 32), page(math.MaxInt, 32))},
		{"page twice", with(page(1, 32), page(1, 32))},
		{"pages falling", with(page(1, 32), page(0, 32))},
		{"pages falling, far", with(page(0, 32), page(2, 32), page(1, 32))},
		{"page nil", with(api.Page{At: 0})},
		{"page too short", with(page(0, 31))},
		{"page too long", with(page(0, 33))},
		{"last page too long", with(page(0, 32), page(2, 64))},
	}
}

// P1.1: a new disk has so many sectors of zeros, nothing wet, and no end.
func TestNew(t *testing.T) {
	for _, n := range []int{1, 2, 3, 255, api.MaxSectors - 1, api.MaxSectors} {
		d, e := disk.New(n)
		if e != api.OK {
			t.Fatalf("%d: got %d", n, e)
		}
		wantDisk(t, "new", d, api.Disk{Dry: make([]byte, n*32), Left: -1})
	}
	for _, n := range []int{0, -1, api.MaxSectors + 1, math.MinInt, math.MaxInt} {
		if d, e := disk.New(n); e != api.ErrArg || !zero(d) {
			t.Errorf("%d: got %v, %d", n, d, e)
		}
	}
}

// P1.1: Check tells which disks may be.
func TestCheck(t *testing.T) {
	for _, x := range good() {
		if e := disk.Check(x.d); e != api.OK {
			t.Errorf("%s: got %d", x.what, e)
		}
	}
	for _, x := range bad() {
		if e := disk.Check(x.d); e != api.ErrArg {
			t.Errorf("%s: got %d", x.what, e)
		}
	}
}

// P1.1: two disks are the same, if all parts are, whether they may be or not.
func TestSame(t *testing.T) {
	all := append(good(), bad()...)
	for i, x := range all {
		for j, y := range all {
			if got := disk.Same(x.d, deep(y.d)); got != (i == j) {
				t.Errorf("%s, %s: got %v", x.what, y.what, got)
			}
		}
	}
}

// P1.1: each part alone tells two disks apart.
func TestSameParts(t *testing.T) {
	d := api.Disk{Dry: dry(1, 2), Wet: []api.Page{{At: 0, B: of(3)}, {At: 1, B: of(4)}}, Left: 5}
	for what, change := range map[string]func(*api.Disk){
		"first dry octet":  func(c *api.Disk) { c.Dry[0]++ },
		"last dry octet":   func(c *api.Disk) { c.Dry[63]++ },
		"how many dry":     func(c *api.Disk) { c.Dry = c.Dry[:32] },
		"first wet octet":  func(c *api.Disk) { c.Wet[0].B[0]++ },
		"last wet octet":   func(c *api.Disk) { c.Wet[1].B[31]++ },
		"how many wet":     func(c *api.Disk) { c.Wet = c.Wet[:1] },
		"how long wet":     func(c *api.Disk) { c.Wet[1].B = c.Wet[1].B[:31] },
		"where wet":        func(c *api.Disk) { c.Wet[1].At = 2 },
		"how many left":    func(c *api.Disk) { c.Left-- },
		"left without end": func(c *api.Disk) { c.Left = api.NoEnd },
	} {
		c := deep(d)
		if !disk.Same(c, d) {
			t.Fatalf("%s: a copy is another one", what)
		}
		change(&c)
		if disk.Same(c, d) || disk.Same(d, c) {
			t.Errorf("%s: the same", what)
		}
	}
}

// R3: a list without elements is nil or empty, as it comes.
func TestSameEmpty(t *testing.T) {
	for what, x := range map[string][2]api.Disk{
		"dry":  {{Dry: nil}, {Dry: []byte{}}},
		"wet":  {{Dry: dry(1), Wet: nil}, {Dry: dry(1), Wet: []api.Page{}}},
		"page": {{Wet: []api.Page{{B: nil}}}, {Wet: []api.Page{{B: []byte{}}}}},
	} {
		if !disk.Same(x[0], x[1]) || !disk.Same(x[1], x[0]) {
			t.Errorf("%s: not the same", what)
		}
	}
}

// P1.1: Limit changes nothing but how many deeds are left, of a disk at its end too.
func TestLimit(t *testing.T) {
	for _, x := range good() {
		for _, n := range []int{api.NoEnd, 0, 1, api.MaxDeeds - 1, api.MaxDeeds} {
			want := deep(x.d)
			want.Left = n
			got, e := disk.Limit(x.d, n)
			if e != api.OK {
				t.Errorf("%s, %d: got %d", x.what, n, e)
			}
			wantDisk(t, x.what, got, want)
		}
		for _, n := range []int{-2, api.MaxDeeds + 1, math.MinInt, math.MaxInt} {
			if got, e := disk.Limit(x.d, n); e != api.ErrArg || !zero(got) {
				t.Errorf("%s, %d: got %v, %d", x.what, n, got, e)
			}
		}
	}
}

// P1.2: pages stand in the order of their sectors, in whatever order they are written; what is dry stays.
func TestWrite(t *testing.T) {
	for _, order := range [][]int{{0, 1, 2}, {0, 2, 1}, {1, 0, 2}, {1, 2, 0}, {2, 0, 1}, {2, 1, 0}} {
		d := api.Disk{Dry: dry(1, 2, 3), Left: api.NoEnd}
		for _, at := range order {
			d = must(t)(disk.Write(d, at, rising(byte(50*at))))
		}
		wantDisk(t, "written", d, api.Disk{Dry: dry(1, 2, 3), Wet: []api.Page{{At: 0, B: rising(0)}, {At: 1, B: rising(50)}, {At: 2, B: rising(100)}}, Left: api.NoEnd})
	}
}

// P1.2: a page comes in place of the one that was wet, and of no other.
func TestWriteAgain(t *testing.T) {
	for at := range 3 {
		d := api.Disk{Dry: dry(1, 2, 3), Wet: []api.Page{{At: 0, B: of(4)}, {At: 1, B: of(5)}, {At: 2, B: of(6)}}, Left: api.NoEnd}
		want := deep(d)
		want.Wet[at].B = rising(99)
		wantDisk(t, "again", must(t)(disk.Write(d, at, rising(99))), want)
	}
}

// P1.2: the first and the last sector of the greatest disk are written and read.
func TestWriteMost(t *testing.T) {
	d := must(t)(disk.New(api.MaxSectors))
	for i, at := range []int{api.MaxSectors - 1, 0} {
		d = must(t)(disk.Write(d, at, of(byte(i+1))))
		if b, e := disk.Read(d, at); e != api.OK || !bytes.Equal(b, of(byte(i+1))) {
			t.Errorf("%d: got %v, %d", at, b, e)
		}
	}
	if b, e := disk.Read(d, 1); e != api.OK || !bytes.Equal(b, of(0)) {
		t.Errorf("got %v, %d", b, e)
	}
}

// P1.2: what is no sector, or no 32 octets, is not written; ErrArg comes ahead of ErrDead.
func TestWriteWrong(t *testing.T) {
	for _, left := range []int{api.NoEnd, 0, 1} {
		d := api.Disk{Dry: dry(1, 2, 3), Left: left}
		for _, at := range []int{-1, 3, 4, math.MinInt, math.MaxInt, math.MaxInt/32 + 1} {
			if got, e := disk.Write(d, at, of(1)); e != api.ErrArg || !zero(got) {
				t.Errorf("left %d, at %d: got %v, %d", left, at, got, e)
			}
		}
		for _, b := range [][]byte{nil, {}, {1}, make([]byte, 31), make([]byte, 33), make([]byte, 64)} {
			if got, e := disk.Write(d, 1, b); e != api.ErrArg || !zero(got) {
				t.Errorf("left %d, %d octets: got %v, %d", left, len(b), got, e)
			}
		}
	}
}

// P1.2: what is read is the wet page, else what is dry; reading is no deed, and a disk at its end is read.
func TestRead(t *testing.T) {
	for _, left := range []int{api.NoEnd, 0, 1} {
		d := api.Disk{Dry: append(rising(0), rising(40)...), Wet: []api.Page{{At: 1, B: rising(80)}}, Left: left}
		d.Dry = append(d.Dry, rising(120)...)
		for at, first := range []byte{0, 80, 120} {
			for range 2 {
				if b, e := disk.Read(d, at); e != api.OK || !bytes.Equal(b, rising(first)) {
					t.Errorf("%d: got %v, %d", at, b, e)
				}
			}
		}
		for _, at := range []int{-1, 3, math.MinInt, math.MaxInt, math.MaxInt/32 + 1} {
			if b, e := disk.Read(d, at); e != api.ErrArg || len(b) != 0 {
				t.Errorf("%d: got %v, %d", at, b, e)
			}
		}
	}
}

// P1.3: behind a sync all that was wet is dry, and nothing is wet.
func TestSync(t *testing.T) {
	d := api.Disk{Dry: dry(1, 2, 3, 4), Wet: []api.Page{{At: 0, B: of(9)}, {At: 3, B: rising(5)}}, Left: api.NoEnd}
	wantDisk(t, "synced", must(t)(disk.Sync(d)), api.Disk{Dry: append(dry(9, 2, 3), rising(5)...), Left: api.NoEnd})
	d.Wet = nil
	wantDisk(t, "nothing wet", must(t)(disk.Sync(d)), d)
}

// P1.2, P1.3: a write and a sync are deeds, whether they change something or not; at its end a disk knows none.
func TestDeeds(t *testing.T) {
	write := func(d api.Disk) (api.Disk, api.Errno) { return disk.Write(d, 1, of(2)) }
	for what, deed := range map[string]func(api.Disk) (api.Disk, api.Errno){"write": write, "sync": disk.Sync} {
		for _, x := range []struct{ left, behind int }{{api.NoEnd, api.NoEnd}, {1, 0}, {2, 1}, {api.MaxDeeds, api.MaxDeeds - 1}} {
			for _, wet := range [][]api.Page{nil, {{At: 1, B: of(2)}}} {
				d := must(t)(deed(api.Disk{Dry: dry(1, 2), Wet: wet, Left: x.left}))
				if d.Left != x.behind {
					t.Errorf("%s: left is %d behind %d", what, d.Left, x.left)
				}
			}
		}
		for _, wet := range [][]api.Page{nil, {{At: 1, B: of(2)}}} {
			if d, e := deed(api.Disk{Dry: dry(1, 2), Wet: wet}); e != api.ErrDead || !zero(d) {
				t.Errorf("%s: got %v, %d", what, d, e)
			}
		}
	}
}

// P1.4: of one page just those groups stay that the mask has bits of, at each of the 256 masks.
func TestCrashMasks(t *testing.T) {
	d := api.Disk{Dry: append(dry(7), rising(100)...), Wet: []api.Page{{At: 1, B: rising(0)}}, Left: 4}
	for mask := range 256 {
		want := api.Disk{Dry: append(dry(7), rising(100)...), Left: api.NoEnd}
		for i := range 32 {
			if mask>>(i/4)&1 == 1 {
				want.Dry[32+i] = byte(i)
			}
		}
		wantDisk(t, "crashed", must(t)(disk.Crash(d, []byte{byte(mask)})), want)
	}
}

// P1.4: masks are told page by page in the order of their sectors; behind their end pages are lost, and masks behind the last page are of nothing.
func TestCrashMany(t *testing.T) {
	d := must(t)(disk.New(4))
	for _, at := range []int{3, 0, 2} {
		d = must(t)(disk.Write(d, at, of(byte(at+1))))
	}
	head := append(bytes.Repeat([]byte{1}, 4), make([]byte, 28)...)
	tail := append(make([]byte, 28), bytes.Repeat([]byte{3}, 4)...)
	for _, x := range []struct {
		masks []byte
		want  []byte
	}{
		{nil, dry(0, 0, 0, 0)},
		{[]byte{}, dry(0, 0, 0, 0)},
		{[]byte{0, 0, 0}, dry(0, 0, 0, 0)},
		{[]byte{255}, dry(1, 0, 0, 0)},
		{[]byte{0, 255}, dry(0, 0, 3, 0)},
		{[]byte{0, 0, 255}, dry(0, 0, 0, 4)},
		{[]byte{255, 255, 255}, dry(1, 0, 3, 4)},
		{[]byte{0, 0, 0, 255, 255}, dry(0, 0, 0, 0)},
		{[]byte{1, 128}, append(append(append(head, dry(0)...), tail...), dry(0)...)},
	} {
		wantDisk(t, "crashed", must(t)(disk.Crash(d, x.masks)), api.Disk{Dry: x.want, Left: api.NoEnd})
	}
}

// P1.4: a crash is no deed: it has no end, and a disk at its end crashes too.
func TestCrashLeft(t *testing.T) {
	for _, left := range []int{api.NoEnd, 0, 1, api.MaxDeeds} {
		d := api.Disk{Dry: dry(1, 2), Wet: []api.Page{{At: 0, B: of(3)}}, Left: left}
		wantDisk(t, "crashed", must(t)(disk.Crash(d, []byte{255})), api.Disk{Dry: dry(3, 2), Left: api.NoEnd})
		d.Wet = nil
		wantDisk(t, "nothing wet", must(t)(disk.Crash(d, []byte{255})), api.Disk{Dry: dry(1, 2), Left: api.NoEnd})
	}
}

// The chapter's ErrArg of all calls, and R1: each call ends at disks that may not be, and all else is zero then.
func TestBadDisks(t *testing.T) {
	for _, x := range bad() {
		for what, call := range map[string]func() (api.Disk, api.Errno){
			"Limit": func() (api.Disk, api.Errno) { return disk.Limit(x.d, 1) },
			"Write": func() (api.Disk, api.Errno) { return disk.Write(x.d, 0, of(1)) },
			"Sync":  func() (api.Disk, api.Errno) { return disk.Sync(x.d) },
			"Crash": func() (api.Disk, api.Errno) { return disk.Crash(x.d, []byte{255, 255, 255}) },
		} {
			if d, e := call(); e != api.ErrArg || !zero(d) {
				t.Errorf("%s: %s: got %v, %d", x.what, what, d, e)
			}
		}
		if b, e := disk.Read(x.d, 0); e != api.ErrArg || len(b) != 0 {
			t.Errorf("%s: Read: got %v, %d", x.what, b, e)
		}
	}
}
