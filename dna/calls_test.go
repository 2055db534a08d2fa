package dna

import (
	"math"
	"math/rand"
	"slices"
	"strings"
	"testing"

	"quern/api"
)

var extremes = []int{0, -1, math.MinInt, math.MaxInt, math.MinInt + 1, math.MaxInt - 1, 1 << 32}

func TestNoCallPanics(t *testing.T) {
	r := rand.New(rand.NewSource(1))
	numbers := append([]int{1, 2, 3, api.MaxK, api.MaxK + 1}, extremes...)
	texts := []string{"", "\n", ">", "@", "@\n", ">\n", "N", strings.Repeat("ACGTN", 5000), strings.Repeat("ACGT", 5000), strings.Repeat("\x00", 20000)}
	for range 300 {
		texts = append(texts, randomText(r, "ACGTNacgtn>@+\n!~\x00\xff\x80", 0, 20), randomText(r, "ACGT", 0, 40))
	}
	for _, text := range texts {
		reads, e := Parse(text)
		if e != api.OK && reads != nil {
			t.Errorf("P1: Parse(%.40q) = %q, %d", text, reads, e)
		}
		for _, call := range []func(string) (string, api.Errno){Turned, Canon} {
			if word, e := call(text); (e == api.OK) == (word == "") {
				t.Errorf("P1: Turned or Canon of %.40q = %q, %d", text, word, e)
			}
		}
		for _, m := range numbers {
			if mark, e := Mark(text, m); (e == api.OK) == (mark == "") {
				t.Errorf("P1: Mark(%.40q, %d) = %q, %d", text, m, mark, e)
			}
			for _, k := range numbers {
				if pieces, e := Pieces(text, k, m); e != api.OK && pieces != nil {
					t.Errorf("P1: Pieces(%.40q, %d, %d) = %q, %d", text, k, m, pieces, e)
				}
			}
		}
	}
}

func TestListsAreNew(t *testing.T) {
	want := []string{"A", "C", "A", "C", "A"} // five, so that a list that grew has spare room
	for name, call := range map[string]func() ([]string, api.Errno){
		"Parse":  func() ([]string, api.Errno) { return Parse(">\nA\n>\nC\n>\nA\n>\nC\n>\nA\n") },
		"Pieces": func() ([]string, api.Errno) { return Pieces("ACACA", 1, 1) },
	} {
		first, _ := call()
		second, _ := call()
		if !slices.Equal(first, want) {
			t.Errorf("P2: %s gives %q, want %q", name, first, want)
		}
		all := first[:cap(first)]
		for i := range all {
			all[i] = "written over"
		}
		third, _ := call()
		if !slices.Equal(second, want) || !slices.Equal(third, want) {
			t.Errorf("P2: %s gives %q and %q behind a caller that wrote, want %q", name, second, third, want)
		}
	}
}
