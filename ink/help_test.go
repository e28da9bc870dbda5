package ink_test

import (
	"math"
	"slices"
	"testing"

	"vizard/api"
	"vizard/grid"
	"vizard/ink"
	"vizard/walk"
)

// far is numbers beyond every edge, those among them of which the low bits are small.
var far = []int{1 << 31, -1 << 31, 1 << 32, 1<<32 + 1, -1<<32 + 1, 1 << 62, -1 << 62, math.MaxInt, math.MaxInt - 1, math.MinInt, math.MinInt + 1}

// dot fills what is left, and is like no cell of a board; x is put; lock is put, and is guarded.
var (
	dot  = api.Cell{Glyph: '.', Attr: api.Under, Mark: -1}
	x    = api.Cell{Glyph: 'x', Attr: api.Bold, Mark: -2}
	lock = api.Cell{Glyph: '#', Attr: api.Dim, Guard: true, Mark: -3}
)

// others is numbers that are no way to wrap, those among them of which the low bits are one.
var others = append([]int{0, 4, -1, -2, -3, 256 + 1, 256 + 2, 1<<16 + 1, 1<<32 + 2}, far...)

// ways is the ways to wrap, and numbers that are none.
var ways = append([]int{walk.Clamp, walk.Auto, walk.Pend}, others...)

func pos(row, col int) api.Pos        { return api.Pos{Row: row, Col: col} }
func at(row, col int) walk.Place      { return walk.Place{Pos: pos(row, col)} }
func pending(row, col int) walk.Place { return walk.Place{Pos: pos(row, col), Pending: true} }

// everywhere is places of a size: all that are there, and ones beyond each edge.
func everywhere(s api.Size) []api.Pos {
	numbers := func(count int) []int {
		all := []int{-1, -2, -count, count, count + 1, 256, -256, math.MaxInt, math.MinInt, 1<<32 + 1, -1 << 62}
		for n := range count {
			all = append(all, n)
		}
		return all
	}
	var all []api.Pos
	for _, row := range numbers(s.Rows) {
		for _, col := range numbers(s.Cols) {
			all = append(all, pos(row, col))
		}
	}
	return all
}

// cursors is the same places, each of them Pending and not.
func cursors(s api.Size) []walk.Place {
	var all []walk.Place
	for _, p := range everywhere(s) {
		all = append(all, at(p.Row, p.Col), pending(p.Row, p.Col))
	}
	return all
}

// small is sizes of which everything is tried: of one cell, one row and one column among them.
var small = []api.Size{{Rows: 1, Cols: 1}, {Rows: 1, Cols: 3}, {Rows: 3, Cols: 1}, {Rows: 2, Cols: 2}, {Rows: 2, Cols: 3}, {Rows: 3, Cols: 2}}

// made is a grid of a size, no two cells of which are the same; those are guarded of which guarded says so.
func made(t testing.TB, s api.Size, guarded func(n int) bool) *grid.Grid[api.Cell] {
	t.Helper()
	g, e := grid.New(s, api.Cell{})
	if e != api.OK {
		t.Fatalf("New of %v: %d", s, int(e))
	}
	for n := range s.Rows * s.Cols {
		g.Set(pos(n/s.Cols, n%s.Cols), api.Cell{Glyph: rune('a' + n%26), Attr: n % (api.All + 1), Guard: guarded(n), Mark: n + 1})
	}
	return g
}

// none lets no cell be guarded, every all of them.
func none(int) bool  { return false }
func every(int) bool { return true }

// bits lets the cells be guarded, row by row, whose bits of a number are set.
func bits(number int) func(int) bool {
	return func(n int) bool { return number>>n&1 == 1 }
}

// but lets all cells be guarded but one.
func but(free int) func(int) bool {
	return func(n int) bool { return n != free }
}

// board is a grid of texts, whose capitals are guarded.
func board(t testing.TB, rows ...string) *grid.Grid[api.Cell] {
	t.Helper()
	cols := len(rows[0])
	g := made(t, api.Size{Rows: len(rows), Cols: cols}, func(n int) bool {
		b := rows[n/cols][n%cols]
		return b >= 'A' && b <= 'Z'
	})
	for p, c := range g.All() {
		c.Glyph = rune(rows[p.Row][p.Col])
		g.Set(p, c)
	}
	return g
}

// text is the glyphs of a grid, a stroke behind each row.
func text(g *grid.Grid[api.Cell]) string {
	var s []rune
	for _, row := range g.Rows() {
		for _, c := range row {
			s = append(s, c.Glyph)
		}
		s = append(s, '/')
	}
	return string(s)
}

// list is the bytes of a text as cells, no two of which are the same.
func list(s string) []api.Cell {
	var l []api.Cell
	for i := range len(s) {
		l = append(l, api.Cell{Glyph: rune(s[i]), Attr: i % 8, Mark: -10 - i})
	}
	return l
}

// plain is what a grid and a cursor should be: all cells row by row, where the cursor is among them, and how often lines went up.
type plain struct {
	cells      []api.Cell
	rows, cols int
	row, col   int
	pending    bool
	ups        int
}

// plainly is a grid's cells, and a cursor at the place nearest to one.
func plainly(g *grid.Grid[api.Cell], p walk.Place) *plain {
	s := g.Size()
	return &plain{
		cells: slices.Concat(g.Rows()...), rows: s.Rows, cols: s.Cols,
		row: nearest(p.Row, s.Rows), col: nearest(p.Col, s.Cols), pending: p.Pending,
	}
}

// nearest is the number from 0 to below count that is nearest to n.
func nearest(n, count int) int {
	if n < 0 {
		return 0
	}
	if n >= count {
		return count - 1
	}
	return n
}

// newline takes the cursor to the first column of the next row; where that is none, all cells lose the first row.
func (m *plain) newline(blank api.Cell) {
	m.col, m.pending = 0, false
	if m.row < m.rows-1 {
		m.row++
		return
	}
	m.cells = append(slices.Clone(m.cells[m.cols:]), slices.Repeat([]api.Cell{blank}, m.cols)...)
	m.ups++
}

// put is what Put should do.
func (m *plain) put(c api.Cell, wrap int, blank api.Cell) {
	if m.pending {
		m.newline(blank)
	}
	m.cells[m.row*m.cols+m.col] = c
	switch {
	case m.col < m.cols-1:
		m.col++
	case wrap == walk.Auto:
		m.newline(blank)
	default:
		m.pending = wrap != walk.Clamp
	}
}

// free is which of the cells is the first one that is not guarded, of those from one on, and then of those ahead of it; -1 if none is.
func (m *plain) free(from int) int {
	for n := from; n < len(m.cells); n++ {
		if !m.cells[n].Guard {
			return n
		}
	}
	for n := 0; n < from; n++ {
		if !m.cells[n].Guard {
			return n
		}
	}
	return -1
}

// last is the same, the other way round: of those from one back, and then of those behind it.
func (m *plain) last(from int) int {
	for n := from; n >= 0; n-- {
		if !m.cells[n].Guard {
			return n
		}
	}
	for n := len(m.cells) - 1; n > from; n-- {
		if !m.cells[n].Guard {
			return n
		}
	}
	return -1
}

// guard is what Guard should do; false, if all cells are guarded.
func (m *plain) guard(c api.Cell) bool {
	n := m.free(m.row*m.cols + m.col)
	if n < 0 {
		return false
	}
	m.cells[n] = c
	m.pending = false
	if n++; n == len(m.cells) {
		n = 0
	}
	if n = m.free(n); n >= 0 {
		m.row, m.col = n/m.cols, n%m.cols
	}
	return true
}

// cursor is where the cursor should be.
func (m *plain) cursor() walk.Place {
	return walk.Place{Pos: pos(m.row, m.col), Pending: m.pending}
}

// holds fails unless a call answered OK, and grid, cursor and lines are as they should be.
func (m *plain) holds(t *testing.T, g *grid.Grid[api.Cell], p walk.Place, lines int, e api.Errno, what ...any) {
	t.Helper()
	if e != api.OK || p != m.cursor() || lines != m.ups || !slices.Equal(slices.Concat(g.Rows()...), m.cells) {
		t.Errorf("%v: %v, %d, %d, %v, not %v, %d, %v", what, p, lines, int(e), g.Rows(), m.cursor(), m.ups, m.cells)
	}
}

// puts fails unless Put does to a grid what the plain one does.
func puts(t *testing.T, was *grid.Grid[api.Cell], p walk.Place, c api.Cell, wrap int, blank api.Cell) {
	t.Helper()
	g, m := was.Copy(), plainly(was, p)
	m.put(c, wrap, blank)
	next, lines, e := ink.Put(g, p, c, wrap, blank)
	m.holds(t, g, next, lines, e, "Put", was.Size(), p, c, wrap)
}

// guards fails unless Guard does to a grid what the plain one does.
func guards(t *testing.T, was *grid.Grid[api.Cell], p walk.Place, c api.Cell) {
	t.Helper()
	g, m := was.Copy(), plainly(was, p)
	ok := m.guard(c)
	next, e := ink.Guard(g, p, c)
	if ok {
		m.holds(t, g, next, 0, e, "Guard", text(was), p, c)
		return
	}
	if next != (walk.Place{}) || e != api.ErrNone || !g.Same(was) {
		t.Errorf("Guard of %s, all guarded, at %v: %v, %d, %s", text(was), p, next, int(e), text(g))
	}
}

// guarding is a board, where the cursor is, what Guard should leave, and where the cursor should be then.
type guarding struct {
	rows []string
	at   walk.Place
	want string
	next walk.Place
}

// holds fails unless Guard of a cell does so.
func (k guarding) holds(t *testing.T, c api.Cell) {
	t.Helper()
	g := board(t, k.rows...)
	if next, e := ink.Guard(g, k.at, c); next != k.next || e != api.OK || text(g) != k.want {
		t.Errorf("Guard(%v, %v): %v, %d, %s, not %v, %s", k.rows, k.at, next, int(e), text(g), k.next, k.want)
	}
}

// finds fails unless Free and Last find what the plain ones do, and turn nothing.
func finds(t *testing.T, g *grid.Grid[api.Cell], p api.Pos) {
	t.Helper()
	was, m := g.Copy(), plainly(g, walk.Place{Pos: p})
	check := func(name string, got api.Pos, ok bool, n int) {
		t.Helper()
		want, is := pos(0, 0), n >= 0
		if is {
			want = pos(n/m.cols, n%m.cols)
		}
		if got != want || ok != is || !g.Same(was) {
			t.Errorf("%s of %s at %v: %v, %v, not %v, %v; %s", name, text(was), p, got, ok, want, is, text(g))
		}
	}
	got, ok := ink.Free(g, p)
	check("Free", got, ok, m.free(m.row*m.cols+m.col))
	got, ok = ink.Last(g, p)
	check("Last", got, ok, m.last(m.row*m.cols+m.col))
}
