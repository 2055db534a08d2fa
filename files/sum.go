package files

import "strconv"

// The sum is that of Fowler, Noll and Vo: each step is one-to-one, so one turned byte always changes it.
const (
	sumStart = 14695981039346656037
	sumStep  = 1099511628211
)

// SumOf is the sum of a text.
func SumOf(text string) uint64 { return sumOn(sumStart, text) }

// sumOn is the sum of a text that stands behind what has this sum.
func sumOn(sum uint64, text string) uint64 {
	for i := range len(text) {
		sum = (sum ^ uint64(text[i])) * sumStep
	}
	return sum
}

// sealOf is the line that ends a file: how many bytes stand ahead of it, and their sum.
func sealOf(written int, sum uint64) string {
	return sealSign + strconv.Itoa(written) + " " + strconv.FormatUint(sum, 16) + "\n"
}
