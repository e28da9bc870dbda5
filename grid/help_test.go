package grid_test

import (
	"math"
	"slices"
	"testing"

	"vizard/api"
	"vizard/grid"
)

// far is numbers beyond the edges of every grid, some of which wrap round to 0 when they are multiplied by 4.
var far = []int{math.MinInt, math.MinInt + 1, -1 << 62, -1 << 32, -256, 256, 1 << 32, 1 << 62, math.MaxInt - 1, math.MaxInt}

func pos(row, col int) api.Pos { return api.Pos{Row: row, Col: col} }

func size(rows, cols int) api.Size { return api.Size{Rows: rows, Cols: cols} }

// counted is a grid whose things are 1, 2, 3 .., row by row.
func counted(t *testing.T, rows, cols int) *grid.Grid[int] {
	t.Helper()
	g, e := grid.New(size(rows, cols), 0)
	if e != api.OK || g == nil {
		t.Fatalf("New(%d, %d): %d", rows, cols, int(e))
	}
	for i := range rows * cols {
		if e := g.Set(pos(i/cols, i%cols), i+1); e != api.OK {
			t.Fatalf("Set: %d", int(e))
		}
	}
	return g
}

// numbers is the rows that counted has.
func numbers(rows, cols int) [][]int {
	l := make([][]int, rows)
	for r := range l {
		for c := range cols {
			l[r] = append(l[r], r*cols+c+1)
		}
	}
	return l
}

func equal(a, b [][]int) bool {
	return slices.EqualFunc(a, b, slices.Equal[[]int])
}

// expect fails if a grid's things, as Rows and At tell them, are other ones.
func expect(t *testing.T, g *grid.Grid[int], want [][]int, about ...any) {
	t.Helper()
	if s := g.Size(); s != size(len(want), len(want[0])) {
		t.Errorf("%v: size %v", about, s)
	}
	if got := g.Rows(); !equal(got, want) {
		t.Errorf("%v: rows %v, want %v", about, got, want)
	}
	for r, row := range want {
		for c, x := range row {
			if y, e := g.At(pos(r, c)); y != x || e != api.OK {
				t.Errorf("%v: at (%d, %d): %d, %d, want %d", about, r, c, y, int(e), x)
			}
		}
	}
}

// refused fails if an error is not the wanted one, or if the grid that gave it, counted of 3 by 4, was turned.
func refused(t *testing.T, g *grid.Grid[int], got, want api.Errno, about ...any) {
	t.Helper()
	if got != want {
		t.Errorf("%v: %d, want %d", about, int(got), int(want))
	}
	expect(t, g, numbers(3, 4), about...)
}
