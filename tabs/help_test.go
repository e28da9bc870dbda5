package tabs_test

import (
	"math"
	"slices"
	"testing"

	"vizard/api"
	"vizard/tabs"
)

// badCols is numbers of columns that may not be.
var badCols = []int{0, -1, -8, -255, 256, 257, 1 << 32, 1<<32 + 1, 1<<32 + 80, -1<<32 + 80, math.MaxInt, math.MinInt}

// far is numbers that are far off every column.
var far = []int{1 << 31, -1 << 31, 1 << 32, 1<<32 + 3, -1<<32 + 3, 1 << 62, -1 << 62, math.MaxInt, math.MaxInt - 1, math.MinInt, math.MinInt + 1}

// layout is a number of columns, and which of them are stops, rising.
type layout struct {
	cols  int
	stops []int
}

// layouts is tabs of few columns and of as many as may be: without a stop, with one, with one in the first or the last column, with all.
func layouts() []layout {
	all := []layout{
		{1, nil}, {1, []int{0}}, {2, []int{0}}, {2, []int{1}}, {7, nil}, {7, []int{3}}, {7, []int{6}}, {7, []int{0, 6}},
		{20, []int{8, 16}}, {20, []int{0, 3, 5, 16}}, {20, []int{0, 1, 2, 17, 18, 19}}, {80, []int{9, 40, 41, 78}},
		{255, nil}, {255, []int{0}}, {255, []int{254}}, {255, []int{0, 100, 253, 254}},
	}
	for _, cols := range []int{2, 5, 20, 80, 254, 255} {
		every := layout{cols: cols}
		for col := range cols {
			every.stops = append(every.stops, col)
		}
		all = append(all, every)
	}
	return all
}

// some is columns of which there are so many, a few beyond on either side, and ones far off.
func some(cols int) []int {
	all := slices.Clone(far)
	for col := -3; col < cols+3; col++ {
		all = append(all, col)
	}
	return all
}

// few is columns at either edge, where there are so many, and in the middle, ones beyond, and ones far off.
func few(cols int) []int {
	return append([]int{0, 1, cols / 2, cols - 2, cols - 1, cols, cols + 1, -1, -2, 300}, far...)
}

// there tells whether a column is one of so many.
func there(cols, col int) bool { return col >= 0 && col < cols }

// next is the least stop above a column, or the last column.
func (l layout) next(col int) int {
	for _, stop := range l.stops {
		if stop > col {
			return stop
		}
	}
	return l.cols - 1
}

// prev is the greatest stop below a column, or the first column.
func (l layout) prev(col int) int {
	for _, stop := range slices.Backward(l.stops) {
		if stop < col {
			return stop
		}
	}
	return 0
}

// from is where Next leads, or Prev, step by step, till it leads no further or the steps are done.
func from(step func(int) int, col, steps int) int {
	for ; steps > 0; steps-- {
		to := step(col)
		if to == col {
			return col
		}
		col = to
	}
	return col
}

// none is tabs of so many columns, of which none is a stop.
func none(t *testing.T, cols int) *tabs.Tabs {
	t.Helper()
	x, e := tabs.New(cols)
	if x == nil || e != api.OK {
		t.Fatalf("New(%d): %v, %d", cols, x, int(e))
	}
	return x
}

// with is tabs that are laid so.
func with(t *testing.T, l layout) *tabs.Tabs {
	t.Helper()
	x := none(t, l.cols)
	if e := x.Put(true, l.stops...); e != api.OK {
		t.Fatalf("Put(true, %v) of %d columns: %d", l.stops, l.cols, int(e))
	}
	return x
}

// is fails unless tabs have so many columns, and just these stops.
func is(t *testing.T, what string, x *tabs.Tabs, cols int, stops ...int) {
	t.Helper()
	if got := x.Cols(); got != cols {
		t.Errorf("%s: %d columns, not %d", what, got, cols)
	}
	if got := x.List(); !slices.Equal(got, stops) {
		t.Errorf("%s: stops %v, not %v", what, got, stops)
	}
}

// says fails unless a call answered so.
func says(t *testing.T, what string, got, want api.Errno) {
	t.Helper()
	if got != want {
		t.Errorf("%s: %d, not %d", what, int(got), int(want))
	}
}
