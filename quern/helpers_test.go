package quern

import (
	"math/rand"
	"slices"
	"strconv"
	"strings"
	"testing"

	"quern/api"
	"quern/disk"
)

const (
	wide  = 1 << 24 // bytes of a disk with room for all
	input = ">x\nACGT\n>y\nAA\n>z\nGATTACAN\n"
)

var plain = api.Options{K: 3, M: 2, Bins: 4}

// plainCounts counts by the words of the document alone.
func plainCounts(reads []string, k int) []api.Entry {
	counts := map[string]int{}
	partners := strings.NewReplacer("A", "T", "T", "A", "C", "G", "G", "C")
	for _, read := range reads {
		for i := 0; i+k <= len(read); i++ {
			word := read[i : i+k]
			if strings.Contains(word, "N") {
				continue
			}
			turned := []byte(partners.Replace(word))
			slices.Reverse(turned)
			counts[min(word, string(turned))]++
		}
	}
	var entries []api.Entry
	for word, count := range counts {
		entries = append(entries, api.Entry{Word: word, Count: count})
	}
	slices.SortFunc(entries, func(a, b api.Entry) int { return strings.Compare(a.Word, b.Word) })
	return entries
}

func randomRead(r *rand.Rand, letters string, most int) string {
	read := make([]byte, 1+r.Intn(most))
	for i := range read {
		read[i] = letters[r.Intn(len(letters))]
	}
	return string(read)
}

func lettersOf(r *rand.Rand, many int) string {
	read := ""
	for len(read) < many {
		read += randomRead(r, "ACGT", many)
	}
	return read[:many]
}

func randomOptions(r *rand.Rand) api.Options {
	o := api.Options{K: 1 + 2*r.Intn(16), Bins: 1 + r.Intn(api.MaxBins)}
	o.M = 1 + r.Intn(min(o.K, api.MaxM))
	return o
}

// inputOf writes reads in the form that begins with `>`.
func inputOf(reads []string) string {
	text := ""
	for _, read := range reads {
		text += ">\n" + read + "\n"
	}
	return text
}

// fourLines writes reads in the form that begins with `@`.
func fourLines(reads []string) string {
	text := ""
	for _, read := range reads {
		text += "@\n" + read + "\n+\n" + strings.Repeat("~", len(read)) + "\n"
	}
	return text
}

// told is all that a disk tells of counts, as a text; or the error.
func told(d *disk.Disk) string {
	b, e := Open(d)
	if e != api.OK {
		if b != nil {
			return "counts beside an error"
		}
		return "error " + strconv.Itoa(int(e))
	}
	return toldBy(b)
}

func toldBy(b *Base) string {
	n, sum := b.Sums()
	entries, e := b.Scan("", n+1)
	if e != api.OK {
		return "Scan refuses"
	}
	return textOf(b.K(), n, sum, entries)
}

func textOf(k, n, sum int, entries []api.Entry) string {
	var text strings.Builder
	text.WriteString(strconv.Itoa(k) + ", " + strconv.Itoa(n) + ", " + strconv.Itoa(sum))
	for _, e := range entries {
		text.WriteString(" " + e.Word + strconv.Itoa(e.Count))
	}
	return text.String()
}

// countsText is what told tells if these are the counts.
func countsText(k int, entries []api.Entry) string {
	sum := 0
	for _, e := range entries {
		sum += e.Count
	}
	return textOf(k, len(entries), sum, entries)
}

const (
	isAbsent  = "error 5"
	isCorrupt = "error 6"
	isDisk    = "error 8"
)

func mustRun(t *testing.T, d *disk.Disk, input string, o api.Options, want api.Errno) {
	t.Helper()
	if e := Run(d, input, o); e != want {
		t.Fatalf("Run(%.40q, %+v) = %d, want %d", input, o, e, want)
	}
}

func done(t *testing.T, input string, o api.Options) *disk.Disk {
	t.Helper()
	d := disk.New(wide)
	mustRun(t, d, input, o, api.OK)
	return d
}

// onDisk is all that lies on a disk, as a text.
func onDisk(d *disk.Disk) string {
	text := ""
	for _, name := range d.List() {
		size, _ := d.Size(name)
		data, _ := d.Read(name, 0, size)
		text += strconv.Quote(name) + " " + strconv.Quote(data) + "\n"
	}
	return text
}
