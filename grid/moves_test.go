package grid_test

import (
	"testing"

	"vizard/api"
)

// steps is how far things are moved in the tests: in the grid, just out of it, and far beyond.
func steps() []int { return append([]int{-6, -5, -4, -3, -2, -1, 0, 1, 2, 3, 4, 5, 6}, far...) }

// source is where the thing at i came from, of those from first to last, moved by n; false, if it is filled.
func source(i, first, last, n int) (int, bool) {
	if n < first-i || n > last-i {
		return 0, false
	}
	return i + n, true
}

// P1.2, P1.4
func TestRollMovesRows(t *testing.T) {
	for top := range 5 {
		for bottom := top; bottom < 5; bottom++ {
			for _, n := range steps() {
				g := counted(t, 5, 4)
				want := numbers(5, 4)
				for r := top; r <= bottom; r++ {
					if from, ok := source(r, top, bottom, n); ok {
						want[r] = numbers(5, 4)[from]
					} else {
						want[r] = []int{-1, -1, -1, -1}
					}
				}
				if e := g.Roll(top, bottom, n, -1); e != api.OK {
					t.Errorf("Roll: %d", int(e))
				}
				expect(t, g, want, "Roll", top, bottom, n)
			}
		}
	}
}

// P1.2, P1.4
func TestSlideMovesPartOfARow(t *testing.T) {
	for row := range 3 {
		for from := range 5 {
			for to := from; to < 5; to++ {
				for _, n := range steps() {
					g := counted(t, 3, 5)
					want := numbers(3, 5)
					for c := from; c <= to; c++ {
						if x, ok := source(c, from, to, n); ok {
							want[row][c] = row*5 + x + 1
						} else {
							want[row][c] = -1
						}
					}
					if e := g.Slide(row, from, to, n, -1); e != api.OK {
						t.Errorf("Slide: %d", int(e))
					}
					expect(t, g, want, "Slide", row, from, to, n)
				}
			}
		}
	}
}

// P1.2: the chapter's example.
func TestSlideOfTheExample(t *testing.T) {
	g := counted(t, 1, 3)
	g.Slide(0, 0, 2, 1, 9)
	expect(t, g, [][]int{{2, 3, 9}}, "Slide by 1")
	g.Slide(0, 0, 2, -2, 7)
	expect(t, g, [][]int{{7, 7, 2}}, "Slide by -2")
}

// P1.2
func TestRollRefuses(t *testing.T) {
	g := counted(t, 3, 4)
	for _, n := range steps() {
		for _, row := range append([]int{-1, 3, 4}, far...) {
			for _, other := range []int{0, 1, 2, row} {
				// ErrRange is named ahead of ErrArg.
				refused(t, g, g.Roll(row, other, n, 9), api.ErrRange, "Roll", row, other, n)
				refused(t, g, g.Roll(other, row, n, 9), api.ErrRange, "Roll", other, row, n)
			}
		}
		refused(t, g, g.Roll(1, 0, n, 9), api.ErrArg, "Roll", 1, 0, n)
		refused(t, g, g.Roll(2, 0, n, 9), api.ErrArg, "Roll", 2, 0, n)
		refused(t, g, g.Roll(2, 1, n, 9), api.ErrArg, "Roll", 2, 1, n)
	}
}

// P1.2
func TestSlideRefuses(t *testing.T) {
	g := counted(t, 3, 4)
	for _, n := range steps() {
		for _, row := range append([]int{-1, 3}, far...) {
			refused(t, g, g.Slide(row, 0, 3, n, 9), api.ErrRange, "Slide row", row, n)
			refused(t, g, g.Slide(row, 3, 0, n, 9), api.ErrRange, "Slide row back", row, n)
		}
		for _, col := range append([]int{-1, 4, 5}, far...) {
			for _, other := range []int{0, 2, 3, col} {
				refused(t, g, g.Slide(1, col, other, n, 9), api.ErrRange, "Slide", col, other, n)
				refused(t, g, g.Slide(1, other, col, n, 9), api.ErrRange, "Slide", other, col, n)
			}
		}
		refused(t, g, g.Slide(1, 1, 0, n, 9), api.ErrArg, "Slide", 1, 0, n)
		refused(t, g, g.Slide(0, 3, 2, n, 9), api.ErrArg, "Slide", 3, 2, n)
		refused(t, g, g.Slide(2, 3, 0, n, 9), api.ErrArg, "Slide", 3, 0, n)
	}
}

// P1.4
func TestRollThereAndBack(t *testing.T) {
	for top := range 5 {
		for bottom := top; bottom < 5; bottom++ {
			for _, n := range steps() {
				if -n == n && n != 0 {
					continue // the least int has no way back
				}
				g := counted(t, 5, 4)
				want := numbers(5, 4)
				for r := top; r <= bottom; r++ {
					if _, kept := source(r, top, bottom, -n); !kept {
						want[r] = []int{-2, -2, -2, -2}
					}
				}
				g.Roll(top, bottom, n, -1)
				g.Roll(top, bottom, -n, -2)
				expect(t, g, want, "Roll there and back", top, bottom, n)
			}
		}
	}
}
