package meter

import (
	"math"
	"testing"

	"copperplate/api"
)

const (
	top  = 1 << 40
	rate = 1 << 20
)

func of(steps, cells int) api.Meter { return api.Meter{Steps: steps, Cells: cells} }

// edges are the counts at which an answer may turn, those that may not be among them.
func edges() []int {
	return []int{math.MinInt, -top, -1, 0, 1, 2, 3, rate - 1, rate, rate + 1, top - 1, top, top + 1, math.MaxInt}
}

func edgeMeters() []api.Meter {
	var all []api.Meter
	for _, s := range edges() {
		for _, c := range edges() {
			all = append(all, of(s, c))
		}
	}
	return all
}

// mayBe says the chapter's words once more, apart from the program's own.
func mayBe(m api.Meter) bool {
	return m.Steps >= 0 && m.Cells >= 0 && m.Steps <= 1099511627776 && m.Cells <= 1099511627776
}

func TestP1_1May(t *testing.T) {
	for _, x := range []struct {
		m   api.Meter
		may bool
	}{
		{of(0, 0), true},
		{of(2, 3), true},
		{of(top, 0), true},
		{of(0, top), true},
		{of(top, top), true},
		{of(top+1, 0), false},
		{of(0, top+1), false},
		{of(-1, 0), false},
		{of(0, -1), false},
		{of(-1, -1), false},
		{of(math.MaxInt, 0), false},
		{of(0, math.MinInt), false},
	} {
		if got := May(x.m); got != x.may {
			t.Errorf("May(%v) = %v", x.m, got)
		}
	}
	for _, m := range edgeMeters() {
		if got := May(m); got != mayBe(m) {
			t.Errorf("May(%v) = %v", m, got)
		}
	}
}

func TestP1_1StepAndCell(t *testing.T) {
	for _, x := range []struct {
		m          api.Meter
		n          int
		step, cell api.Meter
	}{
		{of(0, 0), 5, of(5, 0), of(0, 5)},
		{of(2, 3), 0, of(2, 3), of(2, 3)},
		{of(2, 3), 4, of(6, 3), of(2, 7)},
		{of(2, 3), -1, of(2, 3), of(2, 3)},
		{of(2, 3), math.MinInt, of(2, 3), of(2, 3)},
		{of(0, 0), top, of(top, 0), of(0, top)},
		{of(0, 0), top + 1, of(top, 0), of(0, top)},
		{of(0, 0), math.MaxInt, of(top, 0), of(0, top)},
		{of(1, 2), top - 2, of(top-1, 2), of(1, top)},
		{of(top-1, top-1), 1, of(top, top-1), of(top-1, top)},
		{of(top-1, top-1), 2, of(top, top-1), of(top-1, top)},
		{of(top, top), 0, of(top, top), of(top, top)},
		{of(top, top), 1, of(top, top), of(top, top)},
		{of(top, top), math.MaxInt, of(top, top), of(top, top)},
		{of(top+1, 0), 5, of(top+1, 0), of(top+1, 0)},
		{of(0, top+1), 5, of(0, top+1), of(0, top+1)},
		{of(-7, 4), 5, of(-7, 4), of(-7, 4)},
		{of(4, -7), 5, of(4, -7), of(4, -7)},
		{of(math.MaxInt, 0), math.MaxInt, of(math.MaxInt, 0), of(math.MaxInt, 0)},
		{of(-7, 4), -5, of(-7, 4), of(-7, 4)},
	} {
		if got := Step(x.m, x.n); got != x.step {
			t.Errorf("Step(%v, %d) = %v, not %v", x.m, x.n, got, x.step)
		}
		if got := Cell(x.m, x.n); got != x.cell {
			t.Errorf("Cell(%v, %d) = %v, not %v", x.m, x.n, got, x.cell)
		}
	}
}

func TestP1_1WhatMayNotBeStays(t *testing.T) {
	for _, m := range edgeMeters() {
		for _, n := range edges() {
			if mayBe(m) && n >= 0 {
				continue
			}
			if Step(m, n) != m || Cell(m, n) != m {
				t.Errorf("%v with %d is changed to %v, %v", m, n, Step(m, n), Cell(m, n))
			}
		}
	}
}

func TestP1_2Sum(t *testing.T) {
	for _, x := range []struct{ a, b, sum api.Meter }{
		{of(0, 0), of(0, 0), of(0, 0)},
		{of(1, 2), of(30, 40), of(31, 42)},
		{of(1, 2), of(0, 0), of(1, 2)},
		{of(top, 2), of(3, 4), of(top, 6)},
		{of(2, top), of(3, 4), of(5, top)},
		{of(top-1, 0), of(1, 0), of(top, 0)},
		{of(0, top-1), of(0, 2), of(0, top)},
		{of(top, top), of(top, top), of(top, top)},
		{of(-1, 2), of(3, 4), of(0, 0)},
		{of(1, -2), of(3, 4), of(0, 0)},
		{of(1, 2), of(-3, 4), of(0, 0)},
		{of(1, 2), of(3, -4), of(0, 0)},
		{of(top+1, 2), of(3, 4), of(0, 0)},
		{of(1, 2), of(3, top+1), of(0, 0)},
		{of(math.MaxInt, 2), of(math.MaxInt, 4), of(0, 0)},
	} {
		if got := Sum(x.a, x.b); got != x.sum {
			t.Errorf("Sum(%v, %v) = %v, not %v", x.a, x.b, got, x.sum)
		}
		if got := Sum(x.b, x.a); got != x.sum {
			t.Errorf("Sum(%v, %v) = %v, not %v", x.b, x.a, got, x.sum)
		}
	}
}

func TestP1_2SumOfEdges(t *testing.T) {
	for _, a := range edgeMeters() {
		for _, b := range edgeMeters() {
			var want api.Meter
			if mayBe(a) && mayBe(b) {
				want = of(min(a.Steps+b.Steps, top), min(a.Cells+b.Cells, top))
			}
			if got := Sum(a, b); got != want {
				t.Fatalf("Sum(%v, %v) = %v, not %v", a, b, got, want)
			}
		}
	}
}

func TestP1_3Within(t *testing.T) {
	for _, x := range []struct {
		m               api.Meter
		n, steps, cells int
		is              bool
	}{
		{of(6, 9), 2, 2, 3, true},
		{of(7, 9), 2, 2, 3, false},
		{of(6, 10), 2, 2, 3, false},
		{of(0, 0), 0, 0, 0, true},
		{of(1, 0), 0, 0, 0, false},
		{of(0, 1), 0, 0, 0, false},
		{of(5, 7), 0, 5, 7, true},
		{of(6, 7), 0, 5, 7, false},
		{of(5, 8), 0, 5, 7, false},
		{of(2, 3), 0, 1, 2, false},
		{of(2, 3), 1, 1, 2, true}, // the promise counts n and 1; the chapter's example counts n alone
		{of(2, 3), 2, 1, 2, true},
		{of(0, 0), -1, 1, 1, false},
		{of(0, 0), 1, -1, 1, false},
		{of(0, 0), 1, 1, -1, false},
		{of(0, 0), rate, rate, rate, true},
		{of(0, 0), rate + 1, 1, 1, false},
		{of(0, 0), 1, rate + 1, 1, false},
		{of(0, 0), 1, 1, rate + 1, false},
		{of(0, 0), math.MaxInt, 1, 1, false},
		{of(0, 0), 1, math.MaxInt, 1, false},
		{of(0, 0), 1, 1, math.MinInt, false},
		{of(top, top), rate, rate, rate, true},
		{of(top, 0), rate, rate, 0, true},
		{of(top, 0), rate - 1, rate, 0, true},
		{of(top, 0), rate - 2, rate, 0, false},
		{of(0, top), rate - 2, 0, rate, false},
		{of(top, 0), rate, rate - 1, 0, false},
		{of(top+1, 0), rate, rate, rate, false},
		{of(0, top+1), rate, rate, rate, false},
		{of(-1, 0), 1, 1, 1, false},
		{of(0, -1), 1, 1, 1, false},
	} {
		if got := Within(x.m, x.n, x.steps, x.cells); got != x.is {
			t.Errorf("Within(%v, %d, %d, %d) = %v", x.m, x.n, x.steps, x.cells, got)
		}
	}
}

func TestP1_4WhatMayBeStaysSo(t *testing.T) {
	for _, m := range edgeMeters() {
		for _, n := range edges() {
			if step, cell := Step(m, n), Cell(m, n); mayBe(m) && !(mayBe(step) && mayBe(cell)) {
				t.Errorf("%v with %d is %v, %v", m, n, step, cell)
			}
		}
		for _, b := range edgeMeters() {
			if sum := Sum(m, b); !mayBe(sum) {
				t.Fatalf("Sum(%v, %v) = %v", m, b, sum)
			}
		}
	}
}

func TestP1_4NothingIsCountedLess(t *testing.T) {
	less := func(a, b api.Meter) bool { return a.Steps < b.Steps || a.Cells < b.Cells }
	for _, m := range edgeMeters() {
		for _, n := range edges() {
			if less(Step(m, n), m) || less(Cell(m, n), m) {
				t.Errorf("%v with %d is %v, %v", m, n, Step(m, n), Cell(m, n))
			}
		}
		for _, b := range edgeMeters() {
			if sum := Sum(m, b); mayBe(m) && mayBe(b) && (less(sum, m) || less(sum, b)) {
				t.Fatalf("Sum(%v, %v) = %v", m, b, sum)
			}
		}
	}
}

func TestP1_4InPartsAsAtOnce(t *testing.T) {
	for _, m := range edgeMeters() {
		for _, a := range edges() {
			for _, b := range edges() {
				if a < 0 || b < 0 || a > math.MaxInt-b {
					continue
				}
				if Step(Step(m, a), b) != Step(m, a+b) || Cell(Cell(m, a), b) != Cell(m, a+b) {
					t.Fatalf("%v with %d and %d is not as with %d", m, a, b, a+b)
				}
				if Step(Cell(m, b), a) != Cell(Step(m, a), b) {
					t.Fatalf("%v with %d steps and %d cells hangs on which is first", m, a, b)
				}
				if mayBe(m) && Sum(m, Cell(Step(of(0, 0), a), b)) != Cell(Step(m, a), b) {
					t.Fatalf("%v with %d steps and %d cells counted apart is not as at once", m, a, b)
				}
			}
		}
	}
}

// TestP1 makes every call at every edge, twice: none panics, and none hangs on what was asked before.
func TestP1(t *testing.T) {
	for _, m := range edgeMeters() {
		for _, n := range edges() {
			for _, steps := range edges() {
				for _, cells := range edges() {
					first := Within(m, n, steps, cells)
					Step(m, n)
					Cell(m, steps)
					Sum(m, of(n, cells))
					if Within(m, n, steps, cells) != first {
						t.Fatalf("Within(%v, %d, %d, %d) is told in two ways", m, n, steps, cells)
					}
					wrong := !mayBe(m) || min(n, steps, cells) < 0 || max(n, steps, cells) > rate
					if wrong && first {
						t.Fatalf("Within(%v, %d, %d, %d) is told of what may not be", m, n, steps, cells)
					}
				}
			}
		}
	}
}
