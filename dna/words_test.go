package dna

import (
	"math/rand"
	"slices"
	"strings"
	"testing"

	"quern/api"
)

var noWords = []string{"", "N", "ANA", "a", "acgt", "AC ", " AC", "A\n", "AC\x00", "\xc1", "AC\xc3\x81", "U"}

// allTexts is all texts of some letters, up to a length.
func allTexts(letters string, most int) []string {
	texts := []string{""}
	last := texts
	for range most {
		var longer []string
		for _, text := range last {
			for _, c := range letters {
				longer = append(longer, text+string(c))
			}
		}
		texts = append(texts, longer...)
		last = longer
	}
	return texts
}

// plainTurned, plainMark and plainPieces go by the words of the document alone.
func plainTurned(word string) string {
	turned := ""
	for _, c := range word {
		turned = strings.NewReplacer("A", "T", "T", "A", "C", "G", "G", "C").Replace(string(c)) + turned
	}
	return turned
}

func plainMark(word string, m int) string {
	var parts []string
	for i := 0; i+m <= len(word); i++ {
		parts = append(parts, min(word[i:i+m], plainTurned(word[i:i+m])))
	}
	return slices.Min(parts)
}

func plainPieces(read string, k int, m int) []string {
	var pieces []string
	before := -2
	for i := 0; i+k <= len(read); i++ {
		word := read[i : i+k]
		if strings.Contains(word, "N") {
			continue
		}
		if before == i-1 && plainMark(word, m) == plainMark(read[before:before+k], m) {
			pieces[len(pieces)-1] += word[k-1:]
		} else {
			pieces = append(pieces, word)
		}
		before = i
	}
	return pieces
}

func TestTurnedAndCanon(t *testing.T) {
	for _, c := range []struct{ word, turned, canon string }{
		{"A", "T", "A"},
		{"C", "G", "C"},
		{"G", "C", "C"},
		{"T", "A", "A"},
		{"AACG", "CGTT", "AACG"},
		{"CGTT", "AACG", "AACG"},
		{"ACGT", "ACGT", "ACGT"},
		{"TTTA", "TAAA", "TAAA"},
	} {
		turned, e := Turned(c.word)
		if turned != c.turned || e != api.OK {
			t.Errorf("P4: Turned(%s) = %q, %d, want %s", c.word, turned, e, c.turned)
		}
		canon, e := Canon(c.word)
		if canon != c.canon || e != api.OK {
			t.Errorf("P4: Canon(%s) = %q, %d, want %s", c.word, canon, e, c.canon)
		}
	}
}

func TestTurnedAndCanonOfAllShort(t *testing.T) {
	for _, word := range allTexts("ACGT", 6)[1:] {
		want := plainTurned(word)
		if turned, e := Turned(word); turned != want || e != api.OK {
			t.Fatalf("P4: Turned(%s) = %q, %d, want %s", word, turned, e, want)
		}
		if canon, e := Canon(word); canon != min(word, want) || e != api.OK {
			t.Fatalf("P4: Canon(%s) = %q, %d, want %s", word, canon, e, min(word, want))
		}
	}
}

func TestTurnedAndCanonOfNoWord(t *testing.T) {
	for _, word := range noWords {
		if turned, e := Turned(word); turned != "" || e != api.ErrArg {
			t.Errorf("P4: Turned(%q) = %q, %d, want ErrArg", word, turned, e)
		}
		if canon, e := Canon(word); canon != "" || e != api.ErrArg {
			t.Errorf("P4: Canon(%q) = %q, %d, want ErrArg", word, canon, e)
		}
	}
}

func TestMark(t *testing.T) {
	for _, c := range []struct {
		word string
		m    int
		want string
	}{
		{"GTCA", 2, "AC"},
		{"GTCA", 1, "A"},
		{"GTCA", 4, "GTCA"},
		{"TGAC", 4, "GTCA"},
		{"GGG", 3, "CCC"},
		{"T", 1, "A"},
		{strings.Repeat("T", 50) + "G", 50, strings.Repeat("A", 50)},
	} {
		if mark, e := Mark(c.word, c.m); mark != c.want || e != api.OK {
			t.Errorf("P5: Mark(%s, %d) = %q, %d, want %s", c.word, c.m, mark, e, c.want)
		}
	}
	for _, word := range allTexts("ACGT", 6)[1:] {
		for m := 1; m <= len(word); m++ {
			if mark, e := Mark(word, m); mark != plainMark(word, m) || e != api.OK {
				t.Fatalf("P5: Mark(%s, %d) = %q, %d, want %s", word, m, mark, e, plainMark(word, m))
			}
		}
	}
}

func TestMarkWrong(t *testing.T) {
	for _, word := range noWords {
		for _, m := range []int{0, 1, 2, len(word)} {
			if mark, e := Mark(word, m); mark != "" || e != api.ErrArg {
				t.Errorf("P5: Mark(%q, %d) = %q, %d, want ErrArg", word, m, mark, e)
			}
		}
	}
	for _, m := range append([]int{5}, extremes...) {
		if mark, e := Mark("GTCA", m); mark != "" || e != api.ErrArg {
			t.Errorf("P5: Mark(GTCA, %d) = %q, %d, want ErrArg", m, mark, e)
		}
	}
}

func TestPieces(t *testing.T) {
	as := strings.Repeat("A", 40)
	for _, c := range []struct {
		read string
		k, m int
		want []string
	}{
		{"GTCAN", 3, 2, []string{"GTC", "TCA"}},
		{"AAACNGT", 2, 1, []string{"AAAC", "GT"}},
		{"", 1, 1, nil},
		{"N", 1, 1, nil},
		{"AC", 3, 1, nil},
		{"ACNAC", 3, 1, nil},
		{"ACG", 3, 3, []string{"ACG"}},
		{"NNACGNN", 3, 3, []string{"ACG"}},
		{"ATNTA", 1, 1, []string{"AT", "TA"}},
		{"ACA", 1, 1, []string{"A", "C", "A"}},
		{"AANAA", 2, 2, []string{"AA", "AA"}},
		{as, api.MaxK, api.MaxK, []string{as}},
		{as[:api.MaxK], api.MaxK, 1, []string{as[:api.MaxK]}},
		{as[:api.MaxK-1], api.MaxK, 1, nil},
	} {
		if pieces, e := Pieces(c.read, c.k, c.m); !slices.Equal(pieces, c.want) || e != api.OK {
			t.Errorf("P5: Pieces(%s, %d, %d) = %q, %d, want %q", c.read, c.k, c.m, pieces, e, c.want)
		}
	}
}

func TestPiecesByTheDocument(t *testing.T) {
	check := func(read string, k int, m int) {
		t.Helper()
		want := plainPieces(read, k, m)
		if pieces, e := Pieces(read, k, m); !slices.Equal(pieces, want) || e != api.OK {
			t.Fatalf("P5: Pieces(%s, %d, %d) = %q, %d, want %q", read, k, m, pieces, e, want)
		}
	}
	for _, read := range allTexts("ACGTN", 5) {
		for k := 1; k <= 4; k++ {
			for m := 1; m <= k; m++ {
				check(read, k, m)
			}
		}
	}
	r := rand.New(rand.NewSource(5))
	for range 1000 {
		k := 1 + r.Intn(api.MaxK)
		check(randomText(r, strings.Repeat("ACGT", 10)+"N", 0, 150), k, 1+r.Intn(k))
	}
}

// wordsOf is the words of k letters that stand in a text, without N.
func wordsOf(text string, k int) []string {
	var words []string
	for i := 0; i+k <= len(text); i++ {
		if word := text[i : i+k]; !strings.Contains(word, "N") {
			words = append(words, word)
		}
	}
	return words
}

func TestPiecesHaveJustTheWords(t *testing.T) {
	r := rand.New(rand.NewSource(11))
	for range 1000 {
		read := randomText(r, strings.Repeat("ACGT", 10)+"N", 0, 150)
		k := 1 + r.Intn(api.MaxK)
		m := 1 + r.Intn(k)
		pieces, e := Pieces(read, k, m)
		var words []string
		for _, piece := range pieces {
			words = append(words, wordsOf(piece, k)...)
		}
		if want := wordsOf(read, k); !slices.Equal(words, want) || e != api.OK {
			t.Fatalf("P11: Pieces(%s, %d, %d) have the words %q, want %q", read, k, m, words, want)
		}
	}
}

func TestPiecesWrong(t *testing.T) {
	for _, c := range []struct {
		read string
		k, m int
	}{
		{"ACGT", 0, 0},
		{"ACGT", 0, 1},
		{"ACGT", api.MaxK + 1, 1},
		{"ACGT", 3, 0},
		{"ACGT", 3, 4},
		{"ACGT", -3, -3},
		{"", 0, 1},
		{"", 2, 3},
		{"a", 1, 1},
		{"ACGTn", 1, 1},
		{"X", 3, 1},
		{"ACGT\n", 3, 1},
		{"NN\x00", 3, 1},
		{"AC\xc3\x81", 3, 1},
	} {
		if pieces, e := Pieces(c.read, c.k, c.m); pieces != nil || e != api.ErrArg {
			t.Errorf("P5: Pieces(%q, %d, %d) = %q, %d, want ErrArg", c.read, c.k, c.m, pieces, e)
		}
	}
}
