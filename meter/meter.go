// Package meter is layer 1: see shared/doc/01-meter.md.
package meter

import "copperplate/api"

const (
	most     = api.MaxCount
	mostRate = 1 << 20 // keeps a rate times a size far inside an int
)

// May tells whether m may be.
func May(m api.Meter) bool {
	return upTo(most, m.Steps) && upTo(most, m.Cells)
}

// Step counts n more steps.
func Step(m api.Meter, n int) api.Meter {
	if May(m) && n >= 0 {
		adding(n)(&m.Steps)
	}
	return m
}

// Cell counts n more cells.
func Cell(m api.Meter, n int) api.Meter {
	if May(m) && n >= 0 {
		adding(n)(&m.Cells)
	}
	return m
}

// Sum is what a and b count together.
func Sum(a, b api.Meter) api.Meter {
	if !May(a) || !May(b) {
		return api.Meter{}
	}
	adding(b.Steps)(&a.Steps)
	adding(b.Cells)(&a.Cells)
	return a
}

// Within tells whether m has at most so many steps, and so many cells, for each of n and one more.
func Within(m api.Meter, n, steps, cells int) bool {
	if !May(m) || !upTo(mostRate, n) || !upTo(mostRate, steps) || !upTo(mostRate, cells) {
		return false
	}
	return m.Steps <= steps*(n+1) && m.Cells <= cells*(n+1)
}

func upTo(top, n int) bool { return 0 <= n && n <= top }

// adding takes n from 0 on, and a count up to most. It holds n against what is left
// ahead of adding, since the sum of the two may be beyond an int.
func adding(n int) func(count *int) {
	return func(count *int) {
		if n > most-*count {
			*count = most
			return
		}
		*count += n
	}
}
