package quern

import (
	"strconv"
	"strings"

	"quern/api"
	"quern/disk"
	"quern/dna"
	"quern/fault"
	"quern/files"
)

// How the files are called. Behind the name of a bin stands its number.
const (
	planName   = "plan"
	binName    = "bin"
	countsName = "counts"
)

// What a file of a bin is: its part at first, then its tally, which takes the part's name and thereby its place.
const (
	partKind  = "part"
	tallyKind = "tally"
)

// nameOf is how the file of a bin is called.
func nameOf(bin int) string { return binName + strconv.Itoa(bin) }

// headOf is how a file begins: what it is, to which run it belongs, and a number.
func headOf(kind string, run string, number int) string {
	return kind + " " + run + " " + strconv.Itoa(number) + "\n"
}

// plan is the file that tells which run was begun: its options and its input, whole, so that no other input passes for it.
type plan struct {
	files.File
	text string
	run  string // what tells this run from others, in the files that belong to it
}

func planOf(d *disk.Disk, input string, o api.Options) plan {
	options := strconv.Itoa(o.K) + " " + strconv.Itoa(o.M) + " " + strconv.Itoa(o.Bins)
	text := options + "\n" + input + "\n"
	return plan{
		File: files.Of(d, planName, planName+" "),
		text: text,
		run:  strconv.FormatUint(files.SumOf(text), 16),
	}
}

// save writes the plan.
func (p *plan) save() error {
	if err := p.Begin(); err != nil {
		return err
	}
	if err := p.Write(p.text); err != nil {
		return err
	}
	return p.Seal()
}

// part is a file of pieces whose words are counted together.
type part struct {
	files.File
}

func partOf(d *disk.Disk, run string, bin int) part {
	return part{files.Of(d, nameOf(bin), headOf(partKind, run, bin))}
}

// save writes pieces, one in a line.
func (p *part) save(pieces []string) error {
	if err := p.Begin(); err != nil {
		return err
	}
	for _, piece := range pieces {
		if err := p.Write(piece + "\n"); err != nil {
			return err
		}
	}
	return p.Seal()
}

// pieces reads what save wrote.
func (p *part) pieces() ([]string, error) {
	text, err := p.Load()
	if err != nil {
		return nil, err
	}
	return linesOf(text), nil
}

// list is a file of words in order, and how often each stands: the tally of one part, or the counts of all.
type list struct {
	files.File
	k       int
	entries []api.Entry
}

func tallyOf(d *disk.Disk, run string, bin int, k int) list {
	return list{File: files.Of(d, nameOf(bin), headOf(tallyKind, run, bin)), k: k}
}

func countsOf(d *disk.Disk, run string, k int) list {
	return list{File: files.Of(d, countsName, headOf(countsName, run, k)), k: k}
}

// save writes the entries, one in a line.
func (l *list) save() error {
	if err := l.Begin(); err != nil {
		return err
	}
	for _, e := range l.entries {
		if err := l.Write(e.Word + " " + strconv.Itoa(e.Count) + "\n"); err != nil {
			return err
		}
	}
	return l.Seal()
}

// load reads what save wrote.
func (l *list) load() error {
	text, err := l.Load()
	if err != nil {
		return err
	}
	return l.take(text)
}

// take reads entries from a text.
func (l *list) take(text string) error {
	lines := linesOf(text)
	l.entries = make([]api.Entry, 0, len(lines))
	for i, line := range lines {
		e, fine := entryOf(line, l.k)
		if !fine {
			return l.Broken(fault.New(api.ErrCorrupt, "line "+strconv.Itoa(i+2), files.ErrBroken))
		}
		l.entries = append(l.entries, e)
	}
	return nil
}

// entryOf reads a line of a list; whether it is one.
func entryOf(line string, k int) (api.Entry, bool) {
	word, number, _ := strings.Cut(line, " ")
	count, err := strconv.Atoi(number)
	_, e := dna.Canon(word)
	return api.Entry{Word: word, Count: count}, err == nil && e == api.OK && len(word) == k
}

// openCounts reads the counts of whatever run; it answers which run that is too.
func openCounts(d *disk.Disk) (string, *list, error) {
	l := &list{File: files.Of(d, countsName, countsName+" ")}
	text, err := l.Load()
	if err != nil {
		return "", nil, err
	}
	head, text, _ := strings.Cut(text, "\n")
	run, number, _ := strings.Cut(head, " ")
	k, err := strconv.Atoi(number)
	if err != nil {
		return "", nil, l.Broken(files.ErrBroken)
	}
	l.k = k
	if err := l.take(text); err != nil {
		return "", nil, err
	}
	return run, l, nil
}

// linesOf is the lines of a text, each of which ends with a line feed.
func linesOf(text string) []string {
	if text == "" {
		return nil
	}
	return strings.Split(strings.TrimSuffix(text, "\n"), "\n")
}
