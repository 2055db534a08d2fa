package dna

import (
	"errors"
	"strconv"
	"strings"

	"quern/api"
	"quern/fault"
)

// A grade is one of the bytes that tell how sure a letter is.
const (
	leastGrade = 33
	mostGrade  = 126
)

var (
	errCut    = errors.New("the input ends inside a record")
	errHead   = errors.New("the line begins with another byte than it must")
	errEmpty  = errors.New("a line of letters has none")
	errLetter = errors.New("another byte than a letter")
	errGrades = errors.New("not as many grades as letters")
	errGrade  = errors.New("another byte than a grade")
)

// lines is the lines of an input that are not read yet; how many were.
type lines struct {
	left  []string
	taken int
}

// linesOf is the lines of an input that is not empty.
func linesOf(input string) lines {
	return lines{left: strings.Split(strings.TrimSuffix(input, "\n"), "\n")}
}

// ended tells whether all lines are read.
func (l *lines) ended() bool { return len(l.left) == 0 }

// atHead tells whether there is a next line, and it begins so.
func (l *lines) atHead(head string) bool {
	return !l.ended() && strings.HasPrefix(l.left[0], head)
}

// take reads a line that must be there.
func (l *lines) take() (string, error) {
	if l.ended() {
		return "", l.wrong(errCut)
	}
	line := l.left[0]
	l.left = l.left[1:]
	l.taken++
	return line, nil
}

// takeHead reads a line that must begin so.
func (l *lines) takeHead(head string) error {
	line, err := l.take()
	if err != nil {
		return err
	}
	if !strings.HasPrefix(line, head) {
		return l.wrong(errHead)
	}
	return nil
}

// takeLetters reads a line that must be one or more letters; it answers the great ones.
func (l *lines) takeLetters() (string, error) {
	line, err := l.take()
	if err != nil {
		return "", err
	}
	if line == "" {
		return "", l.wrong(errEmpty)
	}
	great := make([]byte, len(line))
	for i := range len(line) {
		great[i] = greatOf(line[i])
	}
	letters := string(great)
	if !isRead(letters) {
		return "", l.wrong(errLetter)
	}
	return letters, nil
}

// takeGrades reads a line that must be so many grades.
func (l *lines) takeGrades(many int) error {
	line, err := l.take()
	if err != nil {
		return err
	}
	if len(line) != many {
		return l.wrong(errGrades)
	}
	for i := range len(line) {
		if line[i] < leastGrade || line[i] > mostGrade {
			return l.wrong(errGrade)
		}
	}
	return nil
}

// wrong is a fault of the form, at the line that was read last.
func (l *lines) wrong(behind error) error {
	return fault.New(api.ErrFormat, "line "+strconv.Itoa(l.taken), behind)
}

// greatOf is the great letter that a small one stands for; any other byte stays.
func greatOf(b byte) byte {
	switch b {
	case 'a', 'c', 'g', 't', 'n':
		return b - 'a' + 'A'
	default:
		return b
	}
}
