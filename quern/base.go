package quern

import (
	"cmp"
	"slices"

	"quern/api"
	"quern/disk"
	"quern/dna"
	"quern/fault"
)

// Base is counts that were opened.
type Base struct {
	k       int
	entries []api.Entry // by rising words
	all     int         // the sum of their counts
}

// Open opens the counts that are on a disk (P7, P8).
func Open(d *disk.Disk) (*Base, api.Errno) {
	b, err := open(d)
	if err != nil {
		return nil, fault.Number(err)
	}
	return b, api.OK
}

func open(d *disk.Disk) (*Base, error) {
	if d == nil {
		return nil, fault.New(api.ErrArg, "Open", errNoDisk)
	}
	_, l, err := openCounts(d)
	if err != nil {
		return nil, err
	}
	b := &Base{k: l.k, entries: l.entries}
	for _, e := range b.entries {
		b.all += e.Count
	}
	return b, nil
}

// K tells how many letters a word has (P7).
func (b *Base) K() int { return b.k }

// Sums tells how many words there are, and how often all together (P7).
func (b *Base) Sums() (int, int) { return len(b.entries), b.all }

// Count tells how often a word stands (P7).
func (b *Base) Count(word string) (int, api.Errno) {
	if len(word) != b.k {
		return 0, api.ErrArg
	}
	canon, e := dna.Canon(word)
	if e != api.OK {
		return 0, e
	}
	at, there := b.find(canon)
	if !there {
		return 0, api.OK
	}
	return b.entries[at].Count, api.OK
}

// Scan tells words in order (P7).
func (b *Base) Scan(from string, many int) ([]api.Entry, api.Errno) {
	if many < 0 {
		return nil, api.ErrArg
	}
	at, _ := b.find(from)
	rest := b.entries[at:]
	return slices.Clone(rest[:min(many, len(rest))]), api.OK
}

// find is where the first word stands that is not less than a text; whether it is the text.
func (b *Base) find(text string) (int, bool) {
	return slices.BinarySearchFunc(b.entries, text, func(e api.Entry, text string) int {
		return cmp.Compare(e.Word, text)
	})
}
