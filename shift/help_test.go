package shift_test

import (
	"math"
	"slices"
	"testing"

	"vizard/api"
	"vizard/grid"
	"vizard/shift"
)

// far is numbers that lead beyond every edge, those among them of which the low bits are small.
var far = []int{1 << 31, -1 << 31, 1 << 32, 1<<32 + 1, -1<<32 + 1, 1 << 62, -1 << 62, math.MaxInt, math.MaxInt - 1, math.MinInt, math.MinInt + 1}

// dot fills what is left, and is like no cell of a board; lock does, and is guarded.
var (
	dot  = api.Cell{Glyph: '.', Attr: api.Under, Mark: -1}
	lock = api.Cell{Glyph: '#', Attr: api.Dim, Guard: true, Mark: -2}
)

type cells = [][]api.Cell

func pos(row, col int) api.Pos { return api.Pos{Row: row, Col: col} }

// steps is how far things are moved where there are so many of them: by nothing, by few, by all of them, by more, and by far more.
func steps(count int) []int {
	all := slices.Clone(far)
	for n := -count - 2; n <= count+2; n++ {
		all = append(all, n)
	}
	return append(all, 255, 256, -255, -256)
}

// beyond is rows or columns that are not there, where there are so many.
func beyond(count int) []int {
	return append([]int{-1, -2, -count, count, count + 1, 255 + count, 256, -256}, far...)
}

// absent is places that are not there: in their row, in their column, in both.
func absent(rows, cols int) []api.Pos {
	var all []api.Pos
	for _, row := range beyond(rows) {
		for _, col := range append([]int{0, cols - 1}, beyond(cols)...) {
			all = append(all, pos(row, col))
		}
	}
	for _, col := range beyond(cols) {
		all = append(all, pos(0, col), pos(rows-1, col))
	}
	return all
}

// made is a grid of as many rows and columns, no two cells of which are the same; those are guarded of which guarded says so.
func made(t testing.TB, rows, cols int, guarded func(p api.Pos) bool) *grid.Grid[api.Cell] {
	t.Helper()
	g, e := grid.New(api.Size{Rows: rows, Cols: cols}, api.Cell{})
	if e != api.OK {
		t.Fatalf("New of %d by %d: %d", rows, cols, int(e))
	}
	for i := range rows * cols {
		p := pos(i/cols, i%cols)
		g.Set(p, api.Cell{Glyph: rune('a' + i%26), Attr: i % (api.All + 1), Guard: guarded(p), Mark: i + 1})
	}
	return g
}

// none lets no cell be guarded.
func none(api.Pos) bool { return false }

// every lets all cells be guarded.
func every(api.Pos) bool { return true }

// bits lets the cells be guarded, row by row, whose bits of a number are set.
func bits(number, cols int) func(api.Pos) bool {
	return func(p api.Pos) bool { return number>>(p.Row*cols+p.Col)&1 == 1 }
}

// board is a grid of texts, whose capitals are guarded.
func board(t testing.TB, rows ...string) *grid.Grid[api.Cell] {
	t.Helper()
	g := made(t, len(rows), len(rows[0]), func(p api.Pos) bool {
		b := rows[p.Row][p.Col]
		return b >= 'A' && b <= 'Z'
	})
	for p, c := range g.All() {
		c.Glyph = rune(rows[p.Row][p.Col])
		g.Set(p, c)
	}
	return g
}

// text is the glyphs of a grid, a stroke behind each row.
func text(g *grid.Grid[api.Cell]) string {
	var s []rune
	for _, row := range g.Rows() {
		for _, c := range row {
			s = append(s, c.Glyph)
		}
		s = append(s, '/')
	}
	return string(s)
}

// origin is which of the numbers from first to last lies n ahead of at, worked out without a sum that wraps round.
func origin(at, first, last, n int) (int, bool) {
	for x := first; x <= last; x++ {
		if at-x == n {
			return x, true
		}
	}
	return 0, false
}

// shifted is a list whose things from first to last are n further behind; c stands where none came to.
func shifted[T any](l []T, first, last, n int, c T) []T {
	out := slices.Clone(l)
	for i := first; i <= last; i++ {
		out[i] = c
		if x, ok := origin(i, first, last, n); ok {
			out[i] = l[x]
		}
	}
	return out
}

// counted is how many cells are guarded, from a row on.
func counted(l cells, row int) int {
	n := 0
	for _, line := range l[row:] {
		for _, c := range line {
			if c.Guard {
				n++
			}
		}
	}
	return n
}

// longest is the first and the last column of the longest run around a column that has no guarded cell: all runs are tried.
func longest(row []api.Cell, col int) (first, last int, ok bool) {
	for from := 0; from <= col; from++ {
		for to := col; to < len(row); to++ {
			guarded := slices.ContainsFunc(row[from:to+1], func(c api.Cell) bool { return c.Guard })
			if !guarded && (!ok || to-from > last-first) {
				first, last, ok = from, to, true
			}
		}
	}
	return first, last, ok
}

// withLines is what Lines leaves.
func withLines(l cells, row, n int, c api.Cell, guard bool) cells {
	if guard && counted(l, row) > 0 {
		return l
	}
	return shifted(l, row, len(l)-1, n, slices.Repeat([]api.Cell{c}, len(l[0])))
}

// withChars is what Chars leaves.
func withChars(l cells, p api.Pos, n int, c api.Cell, guard bool) cells {
	last := len(l[0]) - 1
	if guard {
		_, to, ok := longest(l[p.Row], p.Col)
		if !ok {
			return l
		}
		last = to
	}
	out := slices.Clone(l)
	out[p.Row] = shifted(l[p.Row], p.Col, last, n, c)
	return out
}

// holds fails unless a call answered OK, and the grid has just these cells.
func holds(t *testing.T, g *grid.Grid[api.Cell], e api.Errno, want cells, what ...any) {
	t.Helper()
	if e != api.OK || !slices.EqualFunc(g.Rows(), want, slices.Equal[[]api.Cell]) {
		t.Errorf("%v: %d, %v, not %v", what, int(e), g.Rows(), want)
	}
}

// refused fails unless a call answered an error, and the grid is as it was.
func refused(t *testing.T, g, was *grid.Grid[api.Cell], e, want api.Errno, what ...any) {
	t.Helper()
	if e != want || !g.Same(was) {
		t.Errorf("%v: %d, not %d; %v", what, int(e), int(want), text(g))
	}
}

// call is one that turns cells at a place, the column of which some do not need.
type call struct {
	name string
	do   func(g *grid.Grid[api.Cell], p api.Pos, n int, c api.Cell, guard bool) api.Errno
}

// calls is Lines and Chars.
var calls = []call{
	{"Lines", func(g *grid.Grid[api.Cell], p api.Pos, n int, c api.Cell, guard bool) api.Errno {
		return shift.Lines(g, p.Row, n, c, guard)
	}},
	{"Chars", shift.Chars},
}
