// Package dna: reads, words and marks: see DOC.md.
package dna

import (
	"strings"

	"quern/api"
	"quern/fault"
)

// Parse reads the reads of an input (P3).
func Parse(input string) ([]string, api.Errno) {
	reads, err := readsOf(input)
	if err != nil {
		return nil, fault.Number(err)
	}
	return reads, api.OK
}

// Turned is a word from its other side (P4).
func Turned(word string) (string, api.Errno) {
	if !isWord(word) {
		return "", api.ErrArg
	}
	return turn(word), api.OK
}

// Canon is a word or its other side (P4).
func Canon(word string) (string, api.Errno) {
	if !isWord(word) {
		return "", api.ErrArg
	}
	return strings.Clone(canonOf(word)), api.OK
}

// Mark is the mark of a word (P5).
func Mark(word string, m int) (string, api.Errno) {
	if !isWord(word) || m < 1 || m > len(word) {
		return "", api.ErrArg
	}
	return strings.Clone(markOf(word, m)), api.OK
}

// Pieces are the parts of a read in which all words have one mark (P5).
func Pieces(read string, k int, m int) ([]string, api.Errno) {
	if k < 1 || k > api.MaxK || m < 1 || m > k || !isRead(read) {
		return nil, api.ErrArg
	}
	return piecesOf(read, k, m), api.OK
}
