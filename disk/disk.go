// Package disk is layer 1: a disk by script, its sectors, and its crashes. See shared/doc/01-disk.md.
package disk

import (
	"bytes"
	"cmp"
	"slices"

	"tansy/api"
)

// New is a disk of so many sectors of zeros, nothing of it wet, whose deeds have no end.
func New(sectors int) (api.Disk, api.Errno) {
	if sectors < 1 || sectors > api.MaxSectors {
		return api.Disk{}, api.ErrArg
	}
	return api.Disk{Dry: make([]byte, sectors*api.Sector), Left: api.NoEnd}, api.OK
}

// Check is ErrArg, if the disk may not be.
func Check(d api.Disk) api.Errno {
	n := sectors(d)
	if len(d.Dry)%api.Sector != 0 || n < 1 || n > api.MaxSectors {
		return api.ErrArg
	}
	if !leftMayBe(d.Left) || !wetMayBe(d.Wet, n) {
		return api.ErrArg
	}
	return api.OK
}

// Same tells whether all parts of two disks are the same, whether they may be or not.
func Same(a, b api.Disk) bool {
	return a.Left == b.Left && bytes.Equal(a.Dry, b.Dry) && slices.EqualFunc(a.Wet, b.Wet, samePage)
}

// Limit is the disk with so many deeds left; that itself is no deed, so a disk at its end may be limited anew.
func Limit(d api.Disk, deeds int) (api.Disk, api.Errno) {
	if Check(d) != api.OK || !leftMayBe(deeds) {
		return api.Disk{}, api.ErrArg
	}
	n := clone(d)
	n.Left = deeds
	return n, api.OK
}

// Write makes b the page of a sector, in place of the one that was wet.
func Write(d api.Disk, at int, b []byte) (api.Disk, api.Errno) {
	if Check(d) != api.OK || !has(d, at) || len(b) != api.Sector {
		return api.Disk{}, api.ErrArg
	}
	return deed(d, func() api.Disk {
		n := clone(d)
		i, wet := find(n.Wet, at)
		if wet {
			copy(n.Wet[i].B, b)
		} else {
			n.Wet = slices.Insert(n.Wet, i, api.Page{At: at, B: bytes.Clone(b)})
		}
		return n
	})
}

// Read is what stands in a sector: its wet page, if there is one, else what is dry.
func Read(d api.Disk, at int) ([]byte, api.Errno) {
	if Check(d) != api.OK || !has(d, at) {
		return nil, api.ErrArg
	}
	if i, wet := find(d.Wet, at); wet {
		return bytes.Clone(d.Wet[i].B), api.OK
	}
	return bytes.Clone(sector(d.Dry, at)), api.OK
}

// Sync makes all dry that is wet; it is a deed, though nothing be wet.
func Sync(d api.Disk) (api.Disk, api.Errno) {
	if Check(d) != api.OK {
		return api.Disk{}, api.ErrArg
	}
	return deed(d, func() api.Disk {
		n := dried(d)
		for _, p := range d.Wet {
			copy(sector(n.Dry, p.At), p.B)
		}
		return n
	})
}

// Crash lets of the i-th wet page just those groups stay that the i-th mask has bits of. It is no deed: a disk at its end crashes too.
func Crash(d api.Disk, masks []byte) (api.Disk, api.Errno) {
	if Check(d) != api.OK {
		return api.Disk{}, api.ErrArg
	}
	n := dried(d)
	for i, p := range d.Wet[:min(len(d.Wet), len(masks))] {
		keepGroups(sector(n.Dry, p.At), p.B, masks[i])
	}
	return n, api.OK
}

// deed is what do makes of the disk, with one deed less left: how a disk comes to its end is told here for all deeds.
func deed(d api.Disk, do func() api.Disk) (api.Disk, api.Errno) {
	if d.Left == 0 {
		return api.Disk{}, api.ErrDead
	}
	n := do()
	n.Left = d.Left
	if d.Left != api.NoEnd {
		n.Left--
	}
	return n, api.OK
}

// keepGroups lays a page's groups over a sector, just where the mask has bits: the others were lost.
func keepGroups(s, page []byte, mask byte) {
	const long = api.Sector / api.Groups
	for k := range api.Groups {
		if mask>>k&1 == 1 {
			copy(s[k*long:(k+1)*long], page[k*long:])
		}
	}
}

// sector is the at-th sector of b. Its third index keeps whoever appends to it from writing into the next one.
func sector(b []byte, at int) []byte {
	from := at * api.Sector
	to := from + api.Sector
	return b[from:to:to]
}

func sectors(d api.Disk) int { return len(d.Dry) / api.Sector }

func has(d api.Disk, at int) bool { return at >= 0 && at < sectors(d) }

// find is where in rising pages that of a sector is, or would be put, and whether there is one.
func find(wet []api.Page, at int) (int, bool) {
	return slices.BinarySearchFunc(wet, at, func(p api.Page, at int) int { return cmp.Compare(p.At, at) })
}

// dried is a new disk of what is dry alone: what a sync, and a crash, both begin with.
func dried(d api.Disk) api.Disk {
	return api.Disk{Dry: bytes.Clone(d.Dry), Left: api.NoEnd}
}

// clone is a new disk that is the same. All its pages are cut out of one list, since every write copies all of them.
func clone(d api.Disk) api.Disk {
	n := api.Disk{Dry: bytes.Clone(d.Dry), Wet: make([]api.Page, len(d.Wet)), Left: d.Left}
	all := make([]byte, len(d.Wet)*api.Sector)
	for i, p := range d.Wet {
		n.Wet[i] = api.Page{At: p.At, B: sector(all, i)}
		copy(n.Wet[i].B, p.B)
	}
	return n
}

func samePage(a, b api.Page) bool { return a.At == b.At && bytes.Equal(a.B, b.B) }

func leftMayBe(left int) bool {
	return left == api.NoEnd || left >= 0 && left <= api.MaxDeeds
}

// wetMayBe tells whether pages may be wet on a disk of n sectors. That they rise from the first one on leaves none ahead of it.
func wetMayBe(wet []api.Page, n int) bool {
	last := -1
	for _, p := range wet {
		if p.At <= last || p.At >= n || len(p.B) != api.Sector {
			return false
		}
		last = p.At
	}
	return true
}
