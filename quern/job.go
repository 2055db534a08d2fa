package quern

import (
	"errors"

	"quern/api"
	"quern/disk"
	"quern/fault"
	"quern/files"
)

// job is a run at its work. It goes from file to file, and passes over those that an earlier call has left whole.
type job struct {
	disk    *disk.Disk
	options api.Options
	plan    plan
}

func jobOf(d *disk.Disk, input string, o api.Options) *job {
	return &job{disk: d, options: o, plan: planOf(d, input, o)}
}

// begin sees to it that this run is begun, if no other one is.
func (j *job) begin() error {
	same, err := j.isBegun()
	if isGone(err) {
		return j.beginAnew()
	}
	if err != nil || same {
		return err
	}
	// Who is refused may lean on it that the other run is begun, but its names need not be sure yet.
	if err := files.SyncNames(j.disk); err != nil {
		return err
	}
	return fault.New(api.ErrOther, "Run", errOther)
}

// isBegun tells whether the run that was begun is this one; the error is one of isGone, if the disk tells of none.
func (j *job) isBegun() (bool, error) {
	text, err := j.plan.Load()
	if !isGone(err) {
		return text == j.plan.text, err
	}
	// A plan that was spoilt tells nothing, but counts that are whole still tell of which run they are.
	run, _, err := openCounts(j.disk)
	return run == j.plan.run, err
}

// beginAnew takes away what lies about of runs of which the disk does not tell, and begins this one.
func (j *job) beginAnew() error {
	// The counts go ahead of the plan, or Open would take them for those of this run.
	if err := files.RemoveAll(j.disk, append(leftovers(), countsName)); err != nil {
		return err
	}
	return j.plan.save()
}

// finish brings a run that is begun to its end.
func (j *job) finish(reads []string) error {
	counts := countsOf(j.disk, j.plan.run, j.options.K)
	err := counts.load()
	if isGone(err) {
		err = j.count(reads, &counts)
	}
	if err != nil {
		return err
	}
	return files.RemoveAll(j.disk, leftovers())
}

// count goes through the parts to the counts.
func (j *job) count(reads []string, counts *list) error {
	bins := deal(reads, j.options)
	if err := j.saveParts(bins); err != nil {
		return err
	}
	tallies, err := j.saveTallies(bins)
	if err != nil {
		return err
	}
	counts.entries = merge(tallies)
	return counts.save()
}

// saveParts writes the parts that are still needed.
func (j *job) saveParts(bins [][]string) error {
	for bin, pieces := range bins {
		if len(pieces) == 0 {
			continue
		}
		t, p := j.tally(bin), j.part(bin)
		err := t.load()
		if isGone(err) {
			_, err = p.pieces()
		}
		if isGone(err) {
			err = p.save(pieces)
		}
		if err != nil {
			return err
		}
	}
	return nil
}

// saveTallies counts each part by itself.
func (j *job) saveTallies(bins [][]string) ([][]api.Entry, error) {
	var tallies [][]api.Entry
	for bin, pieces := range bins {
		if len(pieces) == 0 {
			continue
		}
		t, p := j.tally(bin), j.part(bin)
		err := t.load()
		if isGone(err) {
			err = j.saveTally(&t, &p)
		}
		if err != nil {
			return nil, err
		}
		tallies = append(tallies, t.entries)
	}
	return tallies, nil
}

func (j *job) saveTally(t *list, p *part) error {
	pieces, err := p.pieces()
	if err != nil {
		return err
	}
	t.entries = countWords(pieces, j.options.K)
	return t.save()
}

func (j *job) part(bin int) part { return partOf(j.disk, j.plan.run, bin) }

func (j *job) tally(bin int) list { return tallyOf(j.disk, j.plan.run, bin, j.options.K) }

// isGone tells of an error whether it says that a file is not there, or spoilt: it must be made then.
func isGone(err error) bool {
	return errors.Is(err, files.ErrAbsent) || errors.Is(err, files.ErrBroken)
}

// leftovers is the names of all files that a run needs only on its way, with whatever options.
func leftovers() []string {
	names := []string{files.Draft}
	for bin := range api.MaxBins {
		names = append(names, nameOf(bin))
	}
	return names
}
