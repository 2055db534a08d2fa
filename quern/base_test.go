package quern

import (
	"math"
	"math/rand"
	"slices"
	"strings"
	"testing"

	"quern/api"
	"quern/disk"
	"quern/dna"
)

func opened(t *testing.T, d *disk.Disk) *Base {
	t.Helper()
	b, e := Open(d)
	if b == nil || e != api.OK {
		t.Fatalf("P7: Open = %v, %d", b, e)
	}
	return b
}

func TestOpenRefuses(t *testing.T) {
	if b, e := Open(nil); b != nil || e != api.ErrArg {
		t.Errorf("P7: Open(nil) = %v, %d", b, e)
	}
	d := disk.New(wide)
	if got := told(d); got != isAbsent {
		t.Errorf("P7: an empty disk tells %s", got)
	}
	d.Create("mine")
	if got := told(d); got != isAbsent {
		t.Errorf("P7: a disk with another file tells %s", got)
	}
	d.Die(0)
	if got := told(d); got != isDisk {
		t.Errorf("P7: a dead disk tells %s", got)
	}
	d = done(t, input, plain)
	d.Die(0)
	if got := told(d); got != isDisk {
		t.Errorf("P7: a dead disk with counts tells %s", got)
	}
	if l := onDisk(d); l != "" {
		t.Errorf("a dead disk tells %s", l)
	}
}

func TestOpenChangesNothing(t *testing.T) {
	for _, d := range []*disk.Disk{disk.New(wide), done(t, input, plain)} {
		before := onDisk(d)
		d.Fail(0)
		told(d)
		if onDisk(d) != before || d.Failed() != 0 {
			t.Errorf("P7: Open has changed the disk")
		}
	}
}

func TestCount(t *testing.T) {
	b := opened(t, done(t, ">x\nACGT\n>y\nAA", plain))
	for word, want := range map[string]int{"ACG": 2, "CGT": 2, "AAA": 0, "TTT": 0, "GGG": 0} {
		if n, e := b.Count(word); n != want || e != api.OK {
			t.Errorf("P7: Count(%s) = %d, %d, want %d", word, n, e, want)
		}
	}
	for _, word := range []string{"", "AC", "ACGT", "ANG", "acg", "AC\n", "AC ", "\xff\xff\xff", strings.Repeat("A", 100000)} {
		if n, e := b.Count(word); n != 0 || e != api.ErrArg {
			t.Errorf("P7: Count(%.40q) = %d, %d, want ErrArg", word, n, e)
		}
	}
	none := opened(t, done(t, "", api.Options{K: 1, M: 1, Bins: 1}))
	if n, e := none.Count("T"); n != 0 || e != api.OK {
		t.Errorf("P7: Count(T) of no counts = %d, %d", n, e)
	}
	if n, e := none.Count(""); n != 0 || e != api.ErrArg {
		t.Errorf("P7: Count of no word = %d, %d", n, e)
	}
}

func TestScan(t *testing.T) {
	b := opened(t, done(t, input, plain))
	all := []api.Entry{{Word: "AAT", Count: 1}, {Word: "ACA", Count: 1}, {Word: "ACG", Count: 2}, {Word: "ATC", Count: 1}, {Word: "GTA", Count: 1}, {Word: "TAA", Count: 1}}
	for _, c := range []struct {
		from  string
		many  int
		begin int
		end   int
	}{
		{"", 0, 0, 0},
		{"", 1, 0, 1},
		{"", 6, 0, 6},
		{"", 7, 0, 6},
		{"", math.MaxInt, 0, 6},
		{"\x00", 9, 0, 6},
		{"AAT", 9, 0, 6},
		{"AAT\x00", 9, 1, 6},
		{"AC", 2, 1, 3},
		{"ACG", 1, 2, 3},
		{"GTA", 0, 4, 4},
		{"TAA", 9, 5, 6},
		{"TAAA", 9, 6, 6},
		{"a", 9, 6, 6},
		{"\xff", math.MaxInt, 6, 6},
	} {
		if got, e := b.Scan(c.from, c.many); !slices.Equal(got, all[c.begin:c.end]) || e != api.OK {
			t.Errorf("P7: Scan(%q, %d) = %v, %d, want %v", c.from, c.many, got, e, all[c.begin:c.end])
		}
	}
	for _, many := range []int{-1, math.MinInt} {
		if got, e := b.Scan("", many); got != nil || e != api.ErrArg {
			t.Errorf("P7: Scan(\"\", %d) = %v, %d, want ErrArg", many, got, e)
		}
	}
}

func TestBaseByTheDocument(t *testing.T) {
	r := rand.New(rand.NewSource(8))
	for range 50 {
		reads := []string{randomRead(r, "ACGTN", 300), randomRead(r, "ACGT", 300)}
		o := randomOptions(r)
		want := plainCounts(reads, o.K)
		b := opened(t, done(t, inputOf(reads), o))
		for range 50 {
			from, many := randomRead(r, "ACGT", o.K+1), r.Intn(20)
			at := slices.IndexFunc(want, func(e api.Entry) bool { return e.Word >= from })
			var some []api.Entry
			if at >= 0 {
				some = want[at:min(at+many, len(want))]
			}
			if got, e := b.Scan(from, many); !slices.Equal(got, some) || e != api.OK {
				t.Fatalf("P7: Scan(%s, %d) = %v, %d, want %v", from, many, got, e, some)
			}
		}
		for _, x := range want {
			turned, _ := dna.Turned(x.Word)
			for _, word := range []string{x.Word, turned} {
				if n, e := b.Count(word); n != x.Count || e != api.OK {
					t.Fatalf("P7: Count(%s) = %d, %d, want %d", word, n, e, x.Count)
				}
			}
		}
	}
}

func TestBaseStaysAsItWasOpened(t *testing.T) {
	d := done(t, input, plain)
	b := opened(t, d)
	before := toldBy(b)
	for _, name := range d.List() {
		d.Spoil(name, 30, 1)
	}
	Reset(d)
	mustRun(t, d, ">\nCCCCC", plain, api.OK)
	d.Die(0)
	if got := toldBy(b); got != before {
		t.Errorf("P2: the counts were %s, and are %s", before, got)
	}
}

func TestScannedIsNew(t *testing.T) {
	d := done(t, input, plain)
	b := opened(t, d)
	before := toldBy(b)
	for many := range 7 {
		first, _ := b.Scan("", many)
		second, _ := b.Scan("", many)
		kept := slices.Clone(second)
		all := first[:cap(first)]
		for i := range all {
			all[i] = api.Entry{Word: "written over", Count: 77}
		}
		_ = append(first, api.Entry{Word: "behind it"})
		if !slices.Equal(second, kept) || toldBy(b) != before || told(d) != before {
			t.Errorf("P2: a caller wrote into what Scan gave, and others see it")
		}
	}
}

// What a copy of a disk tells hangs on what is on it, not on whose it is.
func TestCopiesTellTheSame(t *testing.T) {
	d := done(t, input, plain)
	c := d.Copy()
	Reset(d)
	if got := told(c); got != "3, 6, 7 AAT1 ACA1 ACG2 ATC1 GTA1 TAA1" {
		t.Errorf("the copy tells %s", got)
	}
	mustRun(t, c, "", plain, api.ErrOther)
	mustRun(t, d, "", plain, api.OK)
}
