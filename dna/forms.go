package dna

import (
	"errors"
	"strconv"
	"strings"

	"quern/api"
	"quern/fault"
)

var (
	errLong = errors.New("more bytes than an input may have")
	errForm = errors.New("the first byte is of no form")
	errEnd  = errors.New("there is no further record")
)

// records is what the forms of an input have in common.
type records interface {
	// next is the read of the next record; errEnd, if there is none.
	next() (string, error)
}

// none is the form of an empty input.
type none struct{}

// fasta is the form whose records begin with a line of `>`.
type fasta struct{ lines }

// fastq is the form whose records have four lines, with a grade for each letter.
type fastq struct{ lines }

// recordsOf finds out of which form an input is.
func recordsOf(input string) (records, error) {
	if input == "" {
		return none{}, nil
	}
	switch input[0] {
	case '>':
		return &fasta{linesOf(input)}, nil
	case '@':
		return &fastq{linesOf(input)}, nil
	default:
		return nil, fault.New(api.ErrFormat, "the input", errForm)
	}
}

func (none) next() (string, error) { return "", errEnd }

func (f *fasta) next() (string, error) {
	if f.ended() {
		return "", errEnd
	}
	if err := f.takeHead(">"); err != nil {
		return "", err
	}
	var read strings.Builder
	for {
		letters, err := f.takeLetters()
		if err != nil {
			return "", err
		}
		read.WriteString(letters)
		if f.ended() || f.atHead(">") {
			return read.String(), nil
		}
	}
}

func (f *fastq) next() (string, error) {
	if f.ended() {
		return "", errEnd
	}
	if err := f.takeHead("@"); err != nil {
		return "", err
	}
	read, err := f.takeLetters()
	if err != nil {
		return "", err
	}
	if err := f.takeHead("+"); err != nil {
		return "", err
	}
	if err := f.takeGrades(len(read)); err != nil {
		return "", err
	}
	return read, nil
}

// readsOf is the reads of an input.
func readsOf(input string) ([]string, error) {
	if len(input) > api.MaxInput {
		return nil, fault.New(api.ErrLong, "the input", errLong)
	}
	form, err := recordsOf(input)
	if err != nil {
		return nil, err
	}
	var reads []string
	for {
		read, err := form.next()
		if errors.Is(err, errEnd) {
			return reads, nil
		}
		if err != nil {
			return nil, fault.New(fault.Number(err), "record "+strconv.Itoa(len(reads)+1), err)
		}
		reads = append(reads, read)
	}
}
