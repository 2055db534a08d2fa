package dna

import "strings"

const (
	bases       = "ACGT"
	readLetters = "ACGTN"
)

// isWord tells whether a text is one or more bases.
func isWord(text string) bool { return text != "" && hasOnly(text, bases) }

// isRead tells whether a text may be a read: it may be empty, and have N.
func isRead(text string) bool { return hasOnly(text, readLetters) }

// hasOnly goes by bytes, since in a text that is no UTF-8 there are no runes to go by.
func hasOnly(text string, letters string) bool {
	for i := range len(text) {
		if strings.IndexByte(letters, text[i]) < 0 {
			return false
		}
	}
	return true
}

// turn is a word from its other side.
func turn(word string) string {
	turned := make([]byte, len(word))
	for i := range len(word) {
		turned[len(word)-1-i] = partner(word[i])
	}
	return string(turned)
}

// partner is the base that stands on the other side of a base.
func partner(base byte) byte {
	switch base {
	case 'A':
		return 'T'
	case 'C':
		return 'G'
	case 'G':
		return 'C'
	default:
		return 'A'
	}
}

// canonOf is the lesser of a word and its other side.
func canonOf(word string) string { return min(word, turn(word)) }

// markOf is the mark of m letters of a word.
func markOf(word string, m int) string {
	// The other sides of a word's parts are just the parts of its other side, so turning it once is enough.
	return min(leastPart(word, m), leastPart(turn(word), m))
}

// leastPart is the least part of m letters of a word.
func leastPart(word string, m int) string {
	least := word[:m]
	for i := 1; i+m <= len(word); i++ {
		least = min(least, word[i:i+m])
	}
	return least
}

// piecesOf is the pieces of a read.
func piecesOf(read string, k int, m int) []string {
	var pieces []string
	// No piece goes over an N: behind it, the next word begins more than one letter further.
	for _, stretch := range strings.Split(read, "N") {
		pieces = appendPieces(pieces, stretch, k, m)
	}
	return pieces
}

// appendPieces puts the pieces of a stretch without N behind those that are there.
func appendPieces(pieces []string, stretch string, k int, m int) []string {
	if len(stretch) < k {
		return pieces
	}
	begin := 0
	mark := markOf(stretch[:k], m)
	for i := 1; i+k <= len(stretch); i++ {
		next := markOf(stretch[i:i+k], m)
		if next != mark {
			endOfLast := i - 1 + k
			pieces = append(pieces, strings.Clone(stretch[begin:endOfLast]))
			begin, mark = i, next
		}
	}
	return append(pieces, strings.Clone(stretch[begin:]))
}
