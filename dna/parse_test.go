package dna

import (
	"errors"
	"math/rand"
	"regexp"
	"slices"
	"strings"
	"testing"

	"quern/api"
	"quern/fault"
)

func TestParseReads(t *testing.T) {
	for _, c := range []struct {
		input string
		want  []string
	}{
		{"", nil},
		{">x\nACg\nTN\n", []string{"ACGTN"}},
		{">x\nACg\nTN", []string{"ACGTN"}},
		{">\nA", []string{"A"}},
		{">a\nACGTN\n>b\nacgtn\n>c\nN\nn\n", []string{"ACGTN", "ACGTN", "NN"}},
		{">>@+\nA\n>\xff\x00\r\nC", []string{"A", "C"}},
		{"@r\nAC\n+\n!~\n", []string{"AC"}},
		{"@r\nAC\n+\n!~", []string{"AC"}},
		{"@\nacgtn\n+\n!!!!!", []string{"ACGTN"}},
		{"@r\nAC\n+r\n@>\n@r\nAC\n+\xff\n++\n", []string{"AC", "AC"}},
	} {
		reads, e := Parse(c.input)
		if e != api.OK || !slices.Equal(reads, c.want) {
			t.Errorf("P3: Parse(%q) = %q, %d, want %q", c.input, reads, e, c.want)
		}
	}
}

func TestParseWrongForm(t *testing.T) {
	for _, c := range []struct {
		input string
		want  error
	}{
		{"A", errForm},
		{"\n", errForm},
		{"\n>x\nA\n", errForm},
		{" >x\nA\n", errForm},
		{"+\nA\n", errForm},
		{">x", errCut},
		{">x\n", errCut},
		{">x\nA\n>y\n", errCut},
		{">x\n\n", errEmpty},
		{">x\nA\n\n", errEmpty},
		{">x\nA\n\nC\n", errEmpty},
		{">x\n>y\nA\n", errLetter},
		{">x\nAXC", errLetter},
		{">x\nA\r\n", errLetter},
		{">x\nA ", errLetter},
		{">x\nU", errLetter},
		{">x\nA\x00", errLetter},
		{">x\n\xc1", errLetter},
		{">x\nA\n@r\nA\n+\n!\n", errLetter},
		{"@r", errCut},
		{"@r\nAC", errCut},
		{"@r\nAC\n+", errCut},
		{"@r\nAC\n+\n", errCut},
		{"@r\n\n+\n\n", errEmpty},
		{"@r\nAX\n+\n!!", errLetter},
		{"@r\nAC\n-\n!!", errHead},
		{"@r\nAC\nAC\n+\n!!", errHead},
		{"@r\nAC\n+\n!!\n\n", errHead},
		{"@r\nAC\n+\n!!\n>x\nA\n", errHead},
		{"@r\nAC\n+\n!", errGrades},
		{"@r\nAC\n+\n!!!", errGrades},
		{"@r\nAC\n+\n\n", errGrades},
		{"@r\nAC\n+\n! ", errGrade},
		{"@r\nAC\n+\n!\x7f", errGrade},
		{"@r\nAC\n+\n\xff!", errGrade},
	} {
		reads, e := Parse(c.input)
		if e != api.ErrFormat || reads != nil {
			t.Errorf("P3: Parse(%q) = %q, %d, want ErrFormat", c.input, reads, e)
		}
		if _, err := readsOf(c.input); !errors.Is(err, c.want) {
			t.Errorf("readsOf(%q) tells %v, want %v", c.input, err, c.want)
		}
	}
}

func TestParseTellsPlace(t *testing.T) {
	_, err := readsOf(">x\nA\n>y\nC\nX\n")
	var f *fault.Fault
	if !errors.As(err, &f) {
		t.Fatalf("%v is no fault", err)
	}
	if want := "record 2: line 5: " + errLetter.Error(); err.Error() != want {
		t.Errorf("the fault tells %q, want %q", err.Error(), want)
	}
}

func TestParseLength(t *testing.T) {
	fits := ">\n" + strings.Repeat("A", api.MaxInput-2)
	manyLines := ">" + strings.Repeat("\na", api.MaxInput/2-1)
	for _, c := range []struct {
		input string
		want  api.Errno
	}{
		{fits, api.OK},
		{manyLines, api.OK},
		{fits + "A", api.ErrLong},
		{fits + "\n", api.ErrLong},
		{strings.Repeat("X", api.MaxInput), api.ErrFormat},
		{strings.Repeat("X", api.MaxInput+1), api.ErrLong},
	} {
		reads, e := Parse(c.input)
		if e != c.want || e != api.OK && reads != nil {
			t.Errorf("P3: Parse of %d bytes = %d reads, %d, want %d", len(c.input), len(reads), e, c.want)
		}
	}
	if reads, _ := Parse(fits); len(reads) != 1 || reads[0] != fits[2:] {
		t.Errorf("P3: the longest input does not give its read")
	}
}

// The same forms, told another way.
var (
	wholeFasta = regexp.MustCompile(`\A(?:>[^\n]*\n(?:[ACGTNacgtn]+\n)+)+\z`)
	oneFasta   = regexp.MustCompile(`>[^\n]*\n((?:[ACGTNacgtn]+\n)+)`)
	wholeFastq = regexp.MustCompile(`\A(?:@[^\n]*\n[ACGTNacgtn]+\n\+[^\n]*\n[!-~]+\n)+\z`)
	oneFastq   = regexp.MustCompile(`@[^\n]*\n([ACGTNacgtn]+)\n\+[^\n]*\n([!-~]+)\n`)
)

func parseByPattern(input string) ([]string, bool) {
	if input == "" {
		return nil, true
	}
	if !strings.HasSuffix(input, "\n") {
		input += "\n"
	}
	var reads []string
	switch {
	case wholeFasta.MatchString(input):
		for _, m := range oneFasta.FindAllStringSubmatch(input, -1) {
			reads = append(reads, strings.ToUpper(strings.ReplaceAll(m[1], "\n", "")))
		}
	case wholeFastq.MatchString(input):
		for _, m := range oneFastq.FindAllStringSubmatch(input, -1) {
			if len(m[1]) != len(m[2]) {
				return nil, false
			}
			reads = append(reads, strings.ToUpper(m[1]))
		}
	default:
		return nil, false
	}
	return reads, true
}

func checkByPattern(t *testing.T, input string) bool {
	t.Helper()
	want, fine := parseByPattern(input)
	wantE := api.OK
	if !fine {
		wantE = api.ErrFormat
	}
	reads, e := Parse(input)
	if e != wantE || !slices.Equal(reads, want) {
		t.Fatalf("P3: Parse(%q) = %q, %d, want %q, %d", input, reads, e, want, wantE)
	}
	return fine
}

func TestParseAllShort(t *testing.T) {
	var try func(input string, more int)
	try = func(input string, more int) {
		checkByPattern(t, input)
		if more == 0 {
			return
		}
		for _, c := range []byte(">@+\nAnX") {
			try(input+string(c), more-1)
		}
	}
	try("", 5)
}

func randomText(r *rand.Rand, letters string, least int, most int) string {
	text := make([]byte, least+r.Intn(most-least+1))
	for i := range text {
		text[i] = letters[r.Intn(len(letters))]
	}
	return string(text)
}

func randomInput(r *rand.Rand) string {
	input := ""
	fasta := r.Intn(2) == 0
	for range 1 + r.Intn(3) {
		if fasta {
			input += ">" + randomText(r, ">@+Ax", 0, 3) + "\n"
			for range 1 + r.Intn(3) {
				input += randomText(r, "ACGTNacgtn", 1, 4) + "\n"
			}
		} else {
			read := randomText(r, "ACGTNacgtn", 1, 4)
			input += "@" + randomText(r, ">@+Ax", 0, 3) + "\n" + read + "\n+" + randomText(r, ">@+Ax", 0, 3) + "\n" + randomText(r, "!~@+>A", len(read), len(read)) + "\n"
		}
	}
	return input
}

func TestParseRandom(t *testing.T) {
	r := rand.New(rand.NewSource(3))
	fine, wrong := 0, 0
	for range 20000 {
		input := randomInput(r)
		if !checkByPattern(t, input) {
			t.Fatalf("the input %q is wrong", input)
		}
		at, until := r.Intn(len(input)), r.Intn(3)
		changed := input[:at] + randomText(r, ">@+\nAX \x7f!", 0, 1) + input[min(at+until, len(input)):]
		if checkByPattern(t, changed) {
			fine++
		} else {
			wrong++
		}
	}
	if fine < 1000 || wrong < 1000 {
		t.Errorf("%d fine inputs and %d wrong ones are too few", fine, wrong)
	}
}
