package quern

import (
	"errors"
	"maps"
	"math"
	"math/rand"
	"slices"
	"strings"
	"testing"

	"quern/api"
	"quern/disk"
	"quern/dna"
	"quern/fault"
)

func TestRunCounts(t *testing.T) {
	for _, c := range []struct {
		input string
		o     api.Options
		want  string
	}{
		{">x\nACGT\n>y\nAA", plain, "3, 1, 2 ACG2"},
		{">x\nACGT\n>y\nAA", api.Options{K: 1, M: 1, Bins: 1}, "1, 2, 6 A4 C2"},
		{">x\nacgt\n>y\naa", api.Options{K: 1, M: 1, Bins: 16}, "1, 2, 6 A4 C2"},
		{"@x\nACGT\n+\n!!!!\n@y\nAA\n+\n~~", plain, "3, 1, 2 ACG2"},
		{input, plain, "3, 6, 7 AAT1 ACA1 ACG2 ATC1 GTA1 TAA1"},
		{">x\nAC\nGT\n", plain, "3, 1, 2 ACG2"},
		{"", plain, "3, 0, 0"},
		{">x\nAC\n>y\nGT\n", plain, "3, 0, 0"},
		{">x\nACNGT\n", plain, "3, 0, 0"},
		{">x\nNNN\n", api.Options{K: 1, M: 1, Bins: 1}, "1, 0, 0"},
		{">x\n" + strings.Repeat("A", 31) + "\n", api.Options{K: 31, M: 11, Bins: 16}, "31, 1, 1 " + strings.Repeat("A", 31) + "1"},
		{">x\n" + strings.Repeat("T", 19997), api.Options{K: 31, M: 11, Bins: 16}, "31, 1, 19967 " + strings.Repeat("A", 31) + "19967"},
		{">x\n" + strings.Repeat("A", 19997), api.Options{K: 1, M: 1, Bins: 3}, "1, 1, 19997 A19997"},
	} {
		if got := told(done(t, c.input, c.o)); got != c.want {
			t.Errorf("P6: of %.40q with %+v: %.100s, want %.100s", c.input, c.o, got, c.want)
		}
	}
}

func TestRunByTheDocument(t *testing.T) {
	r := rand.New(rand.NewSource(6))
	for range 300 {
		var reads []string
		for range r.Intn(8) {
			reads = append(reads, randomRead(r, "ACGTACGTACGTACGTN", 120), randomRead(r, "AT", 40))
		}
		o := randomOptions(r)
		want := countsText(o.K, plainCounts(reads, o.K))
		for _, text := range []string{inputOf(reads), strings.ToLower(inputOf(reads)), fourLines(reads)} {
			if got := told(done(t, text, o)); got != want {
				t.Fatalf("P6: of %q with %+v: %s, want %s", text, o, got, want)
			}
		}
	}
}

func TestRunOfLongInputs(t *testing.T) {
	r := rand.New(rand.NewSource(7))
	for _, o := range []api.Options{{K: 31, M: 11, Bins: 16}, {K: 31, M: 1, Bins: 1}, {K: 9, M: 9, Bins: 16}} {
		reads := []string{lettersOf(r, api.MaxInput-2)}
		d := done(t, ">\n"+reads[0], o)
		if told(d) != countsText(o.K, plainCounts(reads, o.K)) {
			t.Errorf("P6: the counts of a long input with %+v are wrong", o)
		}
	}
}

func TestRunRefuses(t *testing.T) {
	fine := api.Options{K: 31, M: 11, Bins: 16}
	long := strings.Repeat("x", api.MaxInput+1)
	d := disk.New(wide)
	for _, change := range []func(o *api.Options, by int){
		func(o *api.Options, by int) { o.K = by },
		func(o *api.Options, by int) { o.M = by },
		func(o *api.Options, by int) { o.Bins = by },
	} {
		for _, by := range []int{0, -1, 32, 33, math.MaxInt, math.MinInt, math.MinInt + 1} {
			o := fine
			change(&o, by)
			mustRun(t, d, long, o, api.ErrArg)
		}
	}
	for _, o := range []api.Options{{K: 30, M: 11, Bins: 16}, {K: 31, M: 12, Bins: 16}, {K: 31, M: 11, Bins: 17}, {K: 9, M: 10, Bins: 1}, {K: 2, M: 1, Bins: 1}, {}} {
		mustRun(t, d, "x", o, api.ErrArg)
	}
	mustRun(t, nil, long, fine, api.ErrArg)
	mustRun(t, nil, input, fine, api.ErrArg)
	mustRun(t, d, long, fine, api.ErrLong)
	mustRun(t, d, "x", fine, api.ErrFormat)
	mustRun(t, d, input+"\n", fine, api.ErrFormat)
	if l := d.List(); len(l) != 0 {
		t.Errorf("P6: refused, but there are the files %q", l)
	}
	d.Die(0)
	mustRun(t, d, long, fine, api.ErrLong)
	mustRun(t, d, "x", fine, api.ErrFormat)
	mustRun(t, d, input, fine, api.ErrDisk)
	mustRun(t, &disk.Disk{}, input, fine, api.ErrDisk)
}

func TestRunTakesAllOptionsThatMayBe(t *testing.T) {
	for k := 1; k <= api.MaxK; k += 2 {
		for m := 1; m <= min(k, api.MaxM); m++ {
			for bins := 1; bins <= api.MaxBins; bins += 5 {
				done(t, input, api.Options{K: k, M: m, Bins: bins})
			}
		}
	}
}

func TestRunOfAnother(t *testing.T) {
	d := done(t, input, plain)
	before := onDisk(d)
	for _, o := range []api.Options{{K: 5, M: 2, Bins: 4}, {K: 3, M: 1, Bins: 4}, {K: 3, M: 2, Bins: 5}} {
		mustRun(t, d, input, o, api.ErrOther)
	}
	for _, other := range []string{"", input[:len(input)-1], input + ">\nA", strings.ToLower(input), strings.Replace(input, "x", "y", 1)} {
		mustRun(t, d, other, plain, api.ErrOther)
	}
	mustRun(t, d, "x", plain, api.ErrFormat)
	if onDisk(d) != before {
		t.Errorf("P8: refused, but what is on the disk has changed")
	}
	mustRun(t, d, input, plain, api.OK)
	if onDisk(d) != before {
		t.Errorf("P8: done again, but what is on the disk has changed")
	}
	d.Die(0)
	mustRun(t, d, "", plain, api.ErrDisk)
}

func TestRunLeavesWhatIsNeededAlone(t *testing.T) {
	d := done(t, input, api.Options{K: 1, M: 1, Bins: 16})
	if l := d.List(); !slices.Equal(l, []string{countsName, planName}) {
		t.Errorf("behind a run there are the files %q", l)
	}
}

func TestRunLeavesForeignFiles(t *testing.T) {
	d := disk.New(wide)
	d.Create("mine")
	d.Append("mine", "text")
	mustRun(t, d, input, plain, api.OK)
	if data, ok := d.Read("mine", 0, 4); data != "text" || !ok {
		t.Errorf("a file that is not of the run: %q, %v", data, ok)
	}
}

// P11: what follows from the counts.
func TestCountsHangOnTheWordsAlone(t *testing.T) {
	r := rand.New(rand.NewSource(11))
	for range 100 {
		var reads, mixed []string
		for range 1 + r.Intn(6) {
			read := randomRead(r, "ACGT", 60)
			reads, mixed = append(reads, read), append(mixed, read)
			if r.Intn(2) == 0 {
				mixed[len(mixed)-1], _ = dna.Turned(read)
			}
		}
		r.Shuffle(len(mixed), func(i, j int) { mixed[i], mixed[j] = mixed[j], mixed[i] })
		o := randomOptions(r)
		other := api.Options{K: o.K, M: 1 + r.Intn(min(o.K, api.MaxM)), Bins: 1 + r.Intn(api.MaxBins)}
		if one, two := told(done(t, inputOf(reads), o)), told(done(t, inputOf(mixed), other)); one != two {
			t.Fatalf("P11: %q with %+v: %s; %q with %+v: %s", reads, o, one, mixed, other, two)
		}
	}
}

// both puts two lists of counts together.
func both(one, two []api.Entry) []api.Entry {
	counts := map[string]int{}
	for _, e := range append(slices.Clone(one), two...) {
		counts[e.Word] += e.Count
	}
	var all []api.Entry
	for _, word := range slices.Sorted(maps.Keys(counts)) {
		all = append(all, api.Entry{Word: word, Count: counts[word]})
	}
	return all
}

func allCounts(t *testing.T, input string, o api.Options) []api.Entry {
	t.Helper()
	b := opened(t, done(t, input, o))
	n, _ := b.Sums()
	entries, _ := b.Scan("", n)
	return entries
}

func TestTwoInputsTogether(t *testing.T) {
	r := rand.New(rand.NewSource(13))
	for i := range 100 {
		var reads []string
		for range r.Intn(8) {
			reads = append(reads, randomRead(r, "ACGTACGTN", 60))
		}
		at := r.Intn(len(reads) + 1)
		o := randomOptions(r)
		form := []func([]string) string{inputOf, fourLines}[i%2]
		one, two := form(reads[:at]), form(reads[at:])
		want := both(allCounts(t, one, o), allCounts(t, two, o))
		if got := told(done(t, one+two, o)); got != countsText(o.K, want) {
			t.Fatalf("P11: %q and %q together with %+v: %s, want %v", one, two, o, got, want)
		}
	}
}

// Neighbours, and both sides of a word, must come into one bin, or the parts could not be counted each by itself.
func TestDealtByMarks(t *testing.T) {
	r := rand.New(rand.NewSource(12))
	o := api.Options{K: 7, M: 3, Bins: 16}
	for range 100 {
		read := randomRead(r, "ACGT", 200)
		turned, _ := dna.Turned(read)
		used := 0
		where := map[string]int{}
		for bin, pieces := range deal([]string{read, turned}, o) {
			if len(pieces) > 0 {
				used++
			}
			for _, e := range countWords(pieces, o.K) {
				if at, twice := where[e.Word]; twice {
					t.Fatalf("%s is in the bins %d and %d", e.Word, at, bin)
				}
				where[e.Word] = bin
			}
		}
		if len(read) > 100 && used < 4 {
			t.Errorf("the words of %s are in %d bins only", read, used)
		}
	}
}

func TestMerge(t *testing.T) {
	one, two := []api.Entry{{Word: "A", Count: 1}, {Word: "D", Count: 2}}, []api.Entry{{Word: "B", Count: 3}, {Word: "C", Count: 4}, {Word: "E", Count: 5}}
	want := []api.Entry{{Word: "A", Count: 1}, {Word: "B", Count: 3}, {Word: "C", Count: 4}, {Word: "D", Count: 2}, {Word: "E", Count: 5}}
	lists := [][]api.Entry{two, nil, one}
	if got := merge(lists); !slices.Equal(got, want) || len(lists[0]) != 3 {
		t.Errorf("merge = %v", got)
	}
}

func TestFaultsGoUpWrapped(t *testing.T) {
	d := done(t, input, plain)
	for _, c := range []struct {
		err    error
		want   error
		number api.Errno
	}{
		{run(nil, input, plain), errNoDisk, api.ErrArg},
		{run(d, input, api.Options{}), errOptions, api.ErrArg},
		{run(d, "x", plain), errInput, api.ErrFormat},
		{run(d, "", plain), errOther, api.ErrOther},
		{run(&disk.Disk{}, input, plain), errDead, api.ErrDisk},
		{reset(nil), errNoDisk, api.ErrArg},
	} {
		var f *fault.Fault
		if !errors.Is(c.err, c.want) || !errors.As(c.err, &f) || fault.Number(c.err) != c.number {
			t.Errorf("the fault is %v, want %v", c.err, c.want)
		}
	}
}
