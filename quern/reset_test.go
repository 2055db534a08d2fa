package quern

import (
	"testing"

	"quern/api"
	"quern/disk"
)

func TestReset(t *testing.T) {
	if e := Reset(nil); e != api.ErrArg {
		t.Errorf("P9: Reset(nil) = %d", e)
	}
	foreign := disk.New(0)
	foreign.Create("mine")
	foreign.SyncDir()
	for name, d := range map[string]*disk.Disk{
		"an empty disk":            disk.New(0),
		"a disk with a run":        done(t, input, plain),
		"a disk with another file": foreign,
	} {
		for range 2 {
			if e := Reset(d); e != api.OK || len(d.List()) != 0 {
				t.Errorf("P9: Reset of %s = %d, the files %q", name, e, d.List())
			}
			d.Crash([]int{0})
			if l := d.List(); len(l) != 0 || told(d) != isAbsent {
				t.Errorf("P9: behind Reset of %s and a crash there are the files %q", name, l)
			}
		}
	}
}

func TestResetOfADeadDisk(t *testing.T) {
	for _, d := range []*disk.Disk{disk.New(wide), done(t, input, plain)} {
		d.Die(0)
		if e := Reset(d); e != api.ErrDisk {
			t.Errorf("P9: Reset of a dead disk = %d", e)
		}
	}
}

func TestRunBehindReset(t *testing.T) {
	d := done(t, input, plain)
	if e := Reset(d); e != api.OK {
		t.Fatalf("P9: Reset = %d", e)
	}
	mustRun(t, d, ">\nAAAA", api.Options{K: 1, M: 1, Bins: 2}, api.OK)
	if got := told(d); got != "1, 1, 4 A4" {
		t.Errorf("P9: a new run behind Reset tells %s", got)
	}
}

// A name that was taken away, but not surely, must not come back behind a Reset that finds nothing to do.
func TestResetMakesSure(t *testing.T) {
	d := done(t, input, plain)
	for _, name := range d.List() {
		d.Remove(name)
	}
	if e := Reset(d); e != api.OK {
		t.Fatalf("P9: Reset = %d", e)
	}
	d.Crash([]int{0})
	if l := d.List(); len(l) != 0 {
		t.Errorf("P9: behind a crash there are the files %q again", l)
	}
}
