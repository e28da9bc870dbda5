package wipe_test

import (
	"math"
	"slices"
	"testing"

	"vizard/api"
	"vizard/grid"
	"vizard/wipe"
)

// far is numbers beyond every edge, those among them of which the low bits are small.
var far = []int{1 << 31, -1 << 31, 1 << 32, 1<<32 + 1, -1<<32 + 1, 1 << 62, -1 << 62, math.MaxInt, math.MaxInt - 1, math.MinInt, math.MinInt + 1}

// dot is like no cell of a board; lock is neither, and is guarded.
var (
	dot  = api.Cell{Glyph: '.', Attr: api.Under, Mark: -1}
	lock = api.Cell{Glyph: '#', Attr: api.Dim, Guard: true, Mark: -2}
)

// parts is all parts, and partNames what they are called.
var (
	parts     = []int{wipe.All, wipe.ToEnd, wipe.ToStart, wipe.Line, wipe.LineEnd, wipe.LineStart}
	partNames = []string{"All", "ToEnd", "ToStart", "Line", "LineEnd", "LineStart"}
)

func pos(row, col int) api.Pos     { return api.Pos{Row: row, Col: col} }
func size(rows, cols int) api.Size { return api.Size{Rows: rows, Cols: cols} }

// beyond is rows or columns that are not there, where there are so many.
func beyond(count int) []int {
	return append([]int{-1, -2, -count, count, count + 1, 256 + count - 1, 256, -256}, far...)
}

// absent is places that are not there: in their row, in their column, in both.
func absent(rows, cols int) []api.Pos {
	var all []api.Pos
	for _, row := range beyond(rows) {
		for _, col := range append([]int{0, cols - 1}, beyond(cols)...) {
			all = append(all, pos(row, col))
		}
	}
	for _, col := range beyond(cols) {
		all = append(all, pos(0, col), pos(rows-1, col))
	}
	return all
}

// places is all places, row by row.
func places(s api.Size) []api.Pos {
	var all []api.Pos
	for row := range s.Rows {
		for col := range s.Cols {
			all = append(all, pos(row, col))
		}
	}
	return all
}

// belongs tells whether a place q is one of a part, of the place p; a row has less than 1000 of them.
func belongs(q, p api.Pos, part int) bool {
	behind := q.Row*1000+q.Col >= p.Row*1000+p.Col
	ahead := q.Row*1000+q.Col <= p.Row*1000+p.Col
	switch part {
	case wipe.All:
		return true
	case wipe.ToEnd:
		return behind
	case wipe.ToStart:
		return ahead
	case wipe.Line:
		return q.Row == p.Row
	case wipe.LineEnd:
		return q.Row == p.Row && behind
	}
	return q.Row == p.Row && ahead
}

// those is the places that belong to a part.
func those(s api.Size, p api.Pos, part int) []api.Pos {
	return slices.DeleteFunc(places(s), func(q api.Pos) bool { return !belongs(q, p, part) })
}

// made is a grid of as many rows and columns, no two cells of which are the same; those are guarded of which guarded says so.
func made(t testing.TB, rows, cols int, guarded func(p api.Pos) bool) *grid.Grid[api.Cell] {
	t.Helper()
	g, e := grid.New(size(rows, cols), api.Cell{})
	if e != api.OK {
		t.Fatalf("New of %d by %d: %d", rows, cols, int(e))
	}
	for i, p := range places(g.Size()) {
		g.Set(p, api.Cell{Glyph: rune('a' + i%26), Attr: i % (api.All + 1), Guard: guarded(p), Mark: i + 1})
	}
	return g
}

// none lets no cell be guarded, every all of them, some those of every third place.
func none(api.Pos) bool   { return false }
func every(api.Pos) bool  { return true }
func some(p api.Pos) bool { return (p.Row+p.Col)%3 == 0 }

// bits lets the cells be guarded, row by row, whose bits of a number are set.
func bits(number, cols int) func(api.Pos) bool {
	return func(p api.Pos) bool { return number>>(p.Row*cols+p.Col)&1 == 1 }
}

// board is a grid of texts, whose capitals are guarded.
func board(t testing.TB, rows ...string) *grid.Grid[api.Cell] {
	t.Helper()
	g := made(t, len(rows), len(rows[0]), func(p api.Pos) bool {
		b := rows[p.Row][p.Col]
		return b >= 'A' && b <= 'Z'
	})
	for p, c := range g.All() {
		c.Glyph = rune(rows[p.Row][p.Col])
		g.Set(p, c)
	}
	return g
}

// told is the grid's cells, a stroke behind each row, each as one that tell makes of it.
func told(g *grid.Grid[api.Cell], tell func(c api.Cell) rune) string {
	var s []rune
	for _, row := range g.Rows() {
		for _, c := range row {
			s = append(s, tell(c))
		}
		s = append(s, '/')
	}
	return string(s)
}

// text is the grid's glyphs.
func text(g *grid.Grid[api.Cell]) string {
	return told(g, func(c api.Cell) rune { return c.Glyph })
}

// guards is # where a cell is guarded, and - where it is not.
func guards(g *grid.Grid[api.Cell]) string {
	return told(g, func(c api.Cell) rune {
		if c.Guard {
			return '#'
		}
		return '-'
	})
}

// call is one of those that turn cells: what it does, what it leaves of one cell, and whether guarded cells stay.
type call struct {
	name  string
	do    func(g *grid.Grid[api.Cell], from, to api.Pos) (int, api.Errno)
	leave func(c api.Cell) api.Cell
	guard bool
}

// wiping is Wipe with a cell.
func wiping(c api.Cell, guard bool) call {
	do := func(g *grid.Grid[api.Cell], from, to api.Pos) (int, api.Errno) {
		return wipe.Wipe(g, from, to, c, guard)
	}
	return call{"Wipe", do, func(api.Cell) api.Cell { return c }, guard}
}

// dyeing is Dye with attributes.
func dyeing(attr int, guard bool) call {
	do := func(g *grid.Grid[api.Cell], from, to api.Pos) (int, api.Errno) {
		return wipe.Dye(g, from, to, attr, guard)
	}
	leave := func(c api.Cell) api.Cell {
		return api.Cell{Glyph: c.Glyph, Attr: attr, Guard: c.Guard, Mark: c.Mark}
	}
	return call{"Dye", do, leave, guard}
}

// shielding is Shield, on or off.
func shielding(on bool) call {
	do := func(g *grid.Grid[api.Cell], from, to api.Pos) (int, api.Errno) { return wipe.Shield(g, from, to, on) }
	leave := func(c api.Cell) api.Cell {
		return api.Cell{Glyph: c.Glyph, Attr: c.Attr, Guard: on, Mark: c.Mark}
	}
	return call{"Shield", do, leave, false}
}

// calls is all of them, with what may be told them.
func calls() []call {
	all := []call{shielding(true), shielding(false)}
	for _, guard := range []bool{false, true} {
		all = append(all, wiping(dot, guard), wiping(lock, guard), wiping(api.Cell{}, guard))
		all = append(all, dyeing(0, guard), dyeing(api.Under, guard), dyeing(-1, guard))
	}
	return all
}

// left is the rows that a call leaves, and how many cells were other ones: of a list of all cells, row by row, the first and the last one being numbers in it.
func left(g *grid.Grid[api.Cell], from, to api.Pos, k call) ([][]api.Cell, int) {
	rows, cols, count := g.Rows(), g.Size().Cols, 0
	for i := from.Row*cols + from.Col; i <= to.Row*cols+to.Col; i++ {
		cell := &rows[i/cols][i%cols]
		if k.guard && cell.Guard {
			continue
		}
		if now := k.leave(*cell); now != *cell {
			*cell = now
			count++
		}
	}
	return rows, count
}

// holds fails unless a call does to a grid what left says.
func holds(t *testing.T, was *grid.Grid[api.Cell], from, to api.Pos, k call) {
	t.Helper()
	g := was.Copy()
	want, count := left(was, from, to, k)
	n, e := k.do(g, from, to)
	if n != count || e != api.OK || !slices.EqualFunc(g.Rows(), want, slices.Equal[[]api.Cell]) {
		t.Errorf("%s of %v from %v to %v, guard %v: %d, %d, %v, not %d, %v", k.name, was.Rows(), from, to, k.guard, n, int(e), g.Rows(), count, want)
	}
}

// refused fails unless a call answers an error, and turns nothing.
func refused(t *testing.T, was *grid.Grid[api.Cell], from, to api.Pos, k call, want api.Errno) {
	t.Helper()
	g := was.Copy()
	if n, e := k.do(g, from, to); n != 0 || e != want || !g.Same(was) {
		t.Errorf("%s from %v to %v, guard %v: %d, %d, not %d; %v", k.name, from, to, k.guard, n, int(e), int(want), text(g))
	}
}
