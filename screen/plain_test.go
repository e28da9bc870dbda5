package screen_test

import (
	"slices"

	"vizard/api"
	"vizard/screen"
	"vizard/walk"
	"vizard/wipe"
)

// plain is what a screen should be: all cells row by row, where the cursor is among them, and the stops, rising.
type plain struct {
	cells      []api.Cell
	rows, cols int
	row, col   int
	pending    bool
	stops      []int
}

// copy is one that is the same, with cells of its own.
func (m *plain) copy() *plain {
	n := *m
	n.cells, n.stops = slices.Clone(m.cells), slices.Clone(m.stops)
	return &n
}

// plainly is what a screen is.
func plainly(s *screen.Screen) *plain {
	p, pends := s.Cursor()
	z := s.Size()
	return &plain{slices.Concat(s.Rows()...), z.Rows, z.Cols, p.Row, p.Col, pends, s.Listed()}
}

// same tells whether a screen is so.
func (m *plain) same(s *screen.Screen) bool {
	p, pends := s.Cursor()
	rows := s.Rows()
	for _, row := range rows {
		if len(row) != m.cols {
			return false
		}
	}
	return s.Size() == size(m.rows, m.cols) && p == pos(m.row, m.col) && pends == m.pending && len(rows) == m.rows &&
		slices.Equal(slices.Concat(rows...), m.cells) && slices.Equal(s.Listed(), m.stops)
}

// nearest is the number from 0 to below count that is nearest to n.
func nearest(n, count int) int {
	if n < 0 {
		return 0
	}
	if n >= count {
		return count - 1
	}
	return n
}

// gone is the number from 0 to below count to which n steps lead from one, and how many steps the edge leaves.
func gone(from, n, count int) (to, left int) {
	for ; n > 0 && from < count-1; n-- {
		from++
	}
	for ; n < 0 && from > 0; n++ {
		from--
	}
	return from, n
}

// shifted is a list whose things are n further behind, or ahead, c standing where none came to.
func shifted(l []api.Cell, n int, c api.Cell) []api.Cell {
	out := slices.Repeat([]api.Cell{c}, len(l))
	for i, x := range l {
		if to, left := gone(i, n, len(l)); left == 0 {
			out[to] = x
		}
	}
	return out
}

// shiftRows does so with the rows from one on.
func (m *plain) shiftRows(row, n int, c api.Cell) {
	for col := range m.cols {
		var l []api.Cell
		for r := row; r < m.rows; r++ {
			l = append(l, m.cells[r*m.cols+col])
		}
		for i, x := range shifted(l, n, c) {
			m.set(pos(row+i, col), x)
		}
	}
}

func (m *plain) set(p api.Pos, c api.Cell) api.Errno {
	if !there(size(m.rows, m.cols), p) {
		return api.ErrRange
	}
	m.cells[p.Row*m.cols+p.Col] = c
	return api.OK
}

func (m *plain) move(p api.Pos) {
	m.row, m.col, m.pending = nearest(p.Row, m.rows), nearest(p.Col, m.cols), false
}

func (m *plain) step(rows, cols int) {
	m.row, _ = gone(m.row, rows, m.rows)
	m.col, _ = gone(m.col, cols, m.cols)
	m.pending = false
}

func (m *plain) feed(n int) {
	row, left := gone(m.row, n, m.rows)
	// One line at a time; behind as many as there are rows nothing is left that could go.
	for i := 0; i < left && i < m.rows; i++ {
		m.shiftRows(0, -1, blank)
	}
	for i := 0; i > left && i > -m.rows; i-- {
		m.shiftRows(0, 1, blank)
	}
	m.row, m.pending = row, false
}

// newline takes the cursor to the first column of the next row; where that is none, the lines go up.
func (m *plain) newline() {
	m.col, m.pending = 0, false
	if m.row == m.rows-1 {
		m.shiftRows(0, -1, blank)
		return
	}
	m.row++
}

func (m *plain) put(c api.Cell, wrap int, guard bool) {
	if guard {
		m.putFree(c)
		return
	}
	if m.pending {
		m.newline()
	}
	m.set(pos(m.row, m.col), c)
	switch {
	case m.col < m.cols-1:
		m.col++
	case wrap == walk.Auto:
		m.newline()
	default:
		m.pending = wrap != walk.Clamp
	}
}

// seek is which of the cells is the first one that is not guarded, by steps of 1 or -1 from one, going round; -1 if none is.
func (m *plain) seek(n, step int) int {
	for range m.cells {
		if !m.cells[n].Guard {
			return n
		}
		if n += step; n < 0 {
			n = len(m.cells) - 1
		} else if n == len(m.cells) {
			n = 0
		}
	}
	return -1
}

// putFree puts a cell to the first place that is not guarded, and takes the cursor to the next one.
func (m *plain) putFree(c api.Cell) {
	n := m.seek(m.row*m.cols+m.col, 1)
	if n < 0 {
		return
	}
	m.set(pos(n/m.cols, n%m.cols), c)
	m.pending = false
	if n = m.seek((n+1)%len(m.cells), 1); n >= 0 {
		m.row, m.col = n/m.cols, n%m.cols
	}
}

func (m *plain) free(back bool) bool {
	step := 1
	if back {
		step = -1
	}
	n := m.seek(m.row*m.cols+m.col, step)
	if n < 0 {
		return false
	}
	m.row, m.col, m.pending = n/m.cols, n%m.cols, false
	return true
}

func (m *plain) tab(n int) {
	if n == 0 {
		return
	}
	m.pending = false
	// Between the stops, the first and the last column, no more than so many steps lead anywhere.
	for i := 0; i < n && i < 300; i++ {
		next := slices.IndexFunc(m.stops, func(stop int) bool { return stop > m.col })
		if next < 0 {
			m.col = m.cols - 1
			return
		}
		m.col = m.stops[next]
	}
	for i := 0; i > n && i > -300; i-- {
		ahead := slices.DeleteFunc(slices.Clone(m.stops), func(stop int) bool { return stop >= m.col })
		if len(ahead) == 0 {
			m.col = 0
			return
		}
		m.col = ahead[len(ahead)-1]
	}
}

func (m *plain) stop(col int, on bool) {
	if col < 0 || col >= m.cols {
		return
	}
	m.stops = slices.DeleteFunc(m.stops, func(stop int) bool { return stop == col })
	if on {
		m.stops = append(m.stops, col)
		slices.Sort(m.stops)
	}
}

func (m *plain) stopsEvery(n int) {
	if n < 0 {
		return
	}
	m.stops = nil
	for col := 1; col < m.cols; col++ {
		if n > 0 && col%n == 0 {
			m.stops = append(m.stops, col)
		}
	}
}

// wipeWhere puts a cell to all places of which belongs says so.
func (m *plain) wipeWhere(c api.Cell, guard bool, belongs func(n int) bool) {
	for n, was := range m.cells {
		if belongs(n) && !(guard && was.Guard) {
			m.set(pos(n/m.cols, n%m.cols), c)
		}
	}
}

func (m *plain) wipe(from, to api.Pos, c api.Cell, guard bool) {
	first := nearest(from.Row, m.rows)*m.cols + nearest(from.Col, m.cols)
	last := nearest(to.Row, m.rows)*m.cols + nearest(to.Col, m.cols)
	m.wipeWhere(c, guard, func(n int) bool { return n >= first && n <= last })
}

func (m *plain) part(part int, c api.Cell, guard bool) {
	cursor := m.row*m.cols + m.col
	m.wipeWhere(c, guard, func(n int) bool {
		switch part {
		case wipe.All:
			return true
		case wipe.ToEnd:
			return n >= cursor
		case wipe.ToStart:
			return n <= cursor
		case wipe.Line:
			return n/m.cols == m.row
		case wipe.LineEnd:
			return n/m.cols == m.row && n >= cursor
		case wipe.LineStart:
			return n/m.cols == m.row && n <= cursor
		}
		return false
	})
}

func (m *plain) lines(n int, c api.Cell, guard bool) {
	if guard && slices.ContainsFunc(m.cells[m.row*m.cols:], func(c api.Cell) bool { return c.Guard }) {
		return
	}
	m.shiftRows(m.row, n, c)
}

func (m *plain) chars(n int, c api.Cell, guard bool) {
	from, end := m.row*m.cols+m.col, (m.row+1)*m.cols
	run := m.cells[from:end]
	if guard {
		if first := slices.IndexFunc(run, func(c api.Cell) bool { return c.Guard }); first >= 0 {
			run = run[:first]
		}
	}
	for i, x := range shifted(run, n, c) {
		m.set(pos(m.row, m.col+i), x)
	}
}

func (m *plain) resize(z api.Size) api.Errno {
	if z.Rows < 1 || z.Rows > 255 || z.Cols < 1 || z.Cols > 255 {
		return api.ErrSize
	}
	cells := slices.Repeat([]api.Cell{blank}, z.Rows*z.Cols)
	for n, c := range m.cells {
		if p := pos(n/m.cols, n%m.cols); there(z, p) {
			cells[p.Row*z.Cols+p.Col] = c
		}
	}
	m.cells, m.rows, m.cols = cells, z.Rows, z.Cols
	m.stops = slices.DeleteFunc(m.stops, func(stop int) bool { return stop >= z.Cols })
	m.move(pos(m.row, m.col))
	return api.OK
}
