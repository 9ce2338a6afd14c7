// Package count is layer 1: numbers that stop at their end. See shared/doc/01-count.md.
package count

import "fusebox/api"

// Hold a number between 0 and MaxCount.
func Hold(n int64) int64 {
	return min(max(n, 0), api.MaxCount)
}

// Up by another number. Both are held ahead of the sum, so that it can't wrap round.
func Up(a, b int64) int64 {
	return Hold(Hold(a) + Hold(b))
}

// Down by another number. Both are held ahead of the difference, so that it can't wrap round.
func Down(a, b int64) int64 {
	return Hold(Hold(a) - Hold(b))
}

// Total of numbers.
func Total(l ...int64) int64 {
	var sum int64
	for _, n := range l {
		sum = Up(sum, n)
	}
	return sum
}
