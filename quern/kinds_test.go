package quern

import (
	"errors"
	"testing"

	"quern/api"
	"quern/disk"
	"quern/fault"
	"quern/files"
)

// written is a disk with a file that is whole, whatever stands in it.
func written(t *testing.T, name string, text string) *disk.Disk {
	t.Helper()
	d := disk.New(wide)
	f := files.Of(d, name, text)
	if err := f.Begin(); err != nil {
		t.Fatal(err)
	}
	if err := f.Seal(); err != nil {
		t.Fatal(err)
	}
	return d
}

func TestCountsThatCannotBe(t *testing.T) {
	for _, text := range []string{
		"count ff 3\n",
		"counts\n",
		"counts ff\n",
		"counts ff x\n",
		"counts ff 3\n\n",
		"counts ff 3\nACG\n",
		"counts ff 3\nACG x\n",
		"counts ff 3\nACG 1 1\n",
		"counts ff 3\nAC 1\n",
		"counts ff 3\nANA 1\n",
		"counts ff 3\nAAA 1\n 1\n",
	} {
		d := written(t, countsName, text)
		if got := told(d); got != isCorrupt {
			t.Errorf("P7: of %q Open tells %s", text, got)
		}
		if _, _, err := openCounts(d); !isGone(err) || fault.Number(err) != api.ErrCorrupt {
			t.Errorf("of %q openCounts tells %v", text, err)
		}
		mustRun(t, d, input, plain, api.OK)
	}
	if got := told(written(t, countsName, "counts ff 3\nACG 2\n")); got != "3, 1, 2 ACG2" {
		t.Errorf("P7: Open tells %s", got)
	}
}

func TestIsGone(t *testing.T) {
	for _, c := range []struct {
		err  error
		want bool
	}{
		{nil, false},
		{files.ErrAbsent, true},
		{files.ErrBroken, true},
		{fault.New(api.ErrCorrupt, "a file", files.ErrBroken), true},
		{fault.New(api.ErrDisk, "a file", errDead), false},
		{errors.New("another"), false},
	} {
		if isGone(c.err) != c.want {
			t.Errorf("isGone(%v) is not %v", c.err, c.want)
		}
	}
}

// What belongs to another run, or another part, is never taken for one's own.
func TestFilesKnowTheirRun(t *testing.T) {
	d := disk.New(wide)
	mine := planOf(d, input, plain)
	p := partOf(d, mine.run, 1)
	if err := p.save([]string{"ACG", "CGT"}); err != nil {
		t.Fatal(err)
	}
	for _, o := range []api.Options{{K: 5, M: 2, Bins: 4}, {K: 3, M: 1, Bins: 4}, {K: 3, M: 2, Bins: 5}} {
		if planOf(d, input, o).run == mine.run {
			t.Errorf("%+v is taken for %+v", o, plain)
		}
	}
	p = partOf(d, planOf(d, otherInput, plain).run, 1)
	if _, err := p.pieces(); !errors.Is(err, files.ErrBroken) {
		t.Errorf("a part of another run: %v", err)
	}
	d.Rename("bin1", "bin2")
	p = partOf(d, mine.run, 2)
	if _, err := p.pieces(); !errors.Is(err, files.ErrBroken) {
		t.Errorf("another part: %v", err)
	}
	d.Rename("bin2", "bin1")
	p = partOf(d, mine.run, 1)
	if pieces, err := p.pieces(); len(pieces) != 2 || err != nil {
		t.Errorf("the part itself: %q, %v", pieces, err)
	}
}

// The tally takes the place of its part, so each must tell itself from the other.
func TestPartAndTally(t *testing.T) {
	d := disk.New(wide)
	run := planOf(d, input, plain).run
	p, l := partOf(d, run, 1), tallyOf(d, run, 1, 3)
	if err := p.save(nil); err != nil {
		t.Fatal(err)
	}
	if err := l.load(); !errors.Is(err, files.ErrBroken) {
		t.Errorf("a part is taken for a tally: %v", err)
	}
	if err := l.save(); err != nil {
		t.Fatal(err)
	}
	if _, err := p.pieces(); !errors.Is(err, files.ErrBroken) {
		t.Errorf("a tally is taken for a part: %v", err)
	}
	if err := l.load(); err != nil || len(d.List()) != 1 {
		t.Errorf("a tally: %v, the files %q", err, d.List())
	}
}
