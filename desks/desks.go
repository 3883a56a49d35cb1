// Package desks has what the tests of all that stands on a Desk do with Desks and their disks; the program does not call it.
package desks

import (
	"masonry/api"
	"masonry/desk"
	"masonry/disk"
	"masonry/sample"
	"masonry/witness"
)

// Formatted tells a new disk of n sectors, and the Desk that Format made on it.
func Formatted(t witness.T, n int) (*disk.Disk, *desk.Desk) {
	t.Helper()
	d := witness.Made(t, n)
	k, e := desk.Format(d)
	if k == nil || e != api.OK {
		t.Fatalf("Format: %v, %d", k, e)
	}
	return d, k
}

// Opened tells the Desk of a disk.
func Opened(t witness.T, d *disk.Disk) *desk.Desk {
	t.Helper()
	k, e := desk.Open(d)
	if k == nil || e != api.OK {
		t.Fatalf("Open: %v, %d", k, e)
	}
	return k
}

// Sync syncs a Desk, and lets the power go in it now and then; it tells the Desk that goes on, opened anew behind an error, and the error.
func Sync(t witness.T, d *disk.Disk, k *desk.Desk, r *sample.Draw) (*desk.Desk, api.Errno) {
	t.Helper()
	if r.Below(2) == 0 {
		d.Arm(r.Below(120), r.Below(2), r.Below(2), r.Below(2))
	}
	e := k.Sync()
	d.Arm(-1)
	if e == api.OK {
		return k, e
	}
	d.Restore()
	return Opened(t, d), e
}

// Open opens a disk, and tells the error.
func Open(d *disk.Disk) api.Errno {
	_, e := desk.Open(d)
	return e
}
