package quern

import (
	"slices"

	"quern/api"
	"quern/dna"
	"quern/files"
)

// deal puts the pieces of reads into bins by their marks. A word and its other side have one mark, so both come into one bin.
func deal(reads []string, o api.Options) [][]string {
	bins := make([][]string, o.Bins)
	for _, read := range reads {
		// The reads and the options are checked: neither call refuses them.
		pieces, _ := dna.Pieces(read, o.K, o.M)
		for _, piece := range pieces {
			mark, _ := dna.Mark(piece[:o.K], o.M)
			bin := files.SumOf(mark) % uint64(o.Bins)
			bins[bin] = append(bins[bin], piece)
		}
	}
	return bins
}

// countWords counts the words of pieces; a word and its other side are one.
func countWords(pieces []string, k int) []api.Entry {
	var words []string
	for _, piece := range pieces {
		for i := 0; i+k <= len(piece); i++ {
			canon, _ := dna.Canon(piece[i : i+k])
			words = append(words, canon)
		}
	}
	slices.Sort(words)
	var entries []api.Entry
	for i, word := range words {
		if i == 0 || word != words[i-1] {
			entries = append(entries, api.Entry{Word: word})
		}
		entries[len(entries)-1].Count++
	}
	return entries
}

// merge puts lists in order together into one; no word stands in two of them.
func merge(lists [][]api.Entry) []api.Entry {
	var all []api.Entry
	lists = slices.Clone(lists)
	for {
		least := -1
		for i, list := range lists {
			if len(list) > 0 && (least < 0 || list[0].Word < lists[least][0].Word) {
				least = i
			}
		}
		if least < 0 {
			return all
		}
		all = append(all, lists[least][0])
		lists[least] = lists[least][1:]
	}
}
