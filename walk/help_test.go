package walk_test

import (
	"math"
	"math/big"

	"vizard/api"
	"vizard/walk"
)

// badSizes is sizes that may not be: no rows, no columns, below 0, above 255.
var badSizes = []api.Size{
	{}, size(0, 3), size(2, 0), size(-1, 3), size(2, -1), size(-1, -1), size(256, 3), size(2, 256), size(256, 256),
	size(math.MinInt, 3), size(2, math.MinInt), size(math.MaxInt, 3), size(2, math.MaxInt),
	size(math.MinInt, math.MinInt), size(math.MaxInt, math.MaxInt), size(1<<32, 1<<32), size(1<<32+2, 3),
}

// goodSizes is sizes that may be, those of one row, of one column and the greatest among them.
var goodSizes = []api.Size{
	size(1, 1), size(1, 2), size(2, 1), size(1, 7), size(7, 1), size(2, 3), size(3, 2), size(24, 80),
	size(1, 255), size(255, 1), size(255, 255),
}

// ways is the ways to wrap, and numbers that are none.
var ways = []int{walk.Clamp, walk.Auto, walk.Pend, 0, -1, 4, 257, 1<<32 + 1, 1<<32 + 2, math.MinInt, math.MaxInt}

func pos(row, col int) api.Pos { return api.Pos{Row: row, Col: col} }

func size(rows, cols int) api.Size { return api.Size{Rows: rows, Cols: cols} }

func at(row, col int) walk.Place { return walk.Place{Pos: pos(row, col)} }

func pending(row, col int) walk.Place { return walk.Place{Pos: pos(row, col), Pending: true} }

// edges is numbers of rows or of columns, of which there are count: at the first and the last one, one beyond on either side, and far off.
func edges(count int) []int {
	return []int{
		0, 1, count / 2, count - 2, count - 1, -1, -2, count, count + 1, -count, 254, 255, 256, -254, -255, -256,
		1 << 31, -1 << 31, 1 << 32, 1<<32 + 1, -1 << 32, 1 << 62, -1 << 62,
		math.MaxInt, math.MaxInt - 1, math.MaxInt - count, math.MinInt, math.MinInt + 1, math.MinInt + count,
	}
}

// places is positions of a size that are there, and ones beyond each edge.
func places(s api.Size) []api.Pos {
	var all []api.Pos
	for _, row := range edges(s.Rows) {
		for _, col := range edges(s.Cols) {
			all = append(all, pos(row, col))
		}
	}
	return all
}

// there tells whether a place is one of a size.
func there(s api.Size, p api.Pos) bool {
	return p.Row >= 0 && p.Row < s.Rows && p.Col >= 0 && p.Col < s.Cols
}

// nearest is the number from 0 to below count that is nearest to a sum, which is worked out without an end.
func nearest(count int, parts ...int) int {
	sum := new(big.Int)
	for _, n := range parts {
		sum.Add(sum, big.NewInt(int64(n)))
	}
	if sum.Sign() < 0 {
		return 0
	}
	if last := big.NewInt(int64(count - 1)); sum.Cmp(last) > 0 {
		sum = last
	}
	return int(sum.Int64())
}

// near is the place of a size nearest to one.
func near(s api.Size, p api.Pos) api.Pos {
	return pos(nearest(s.Rows, p.Row), nearest(s.Cols, p.Col))
}
