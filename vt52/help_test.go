package vt52_test

import (
	"fmt"
	"slices"
	"strings"
	"testing"

	"vizard/api"
	"vizard/queue"
	"vizard/screen"
	"vizard/vt52"
)

// figures is the glyphs of the bytes from 94 to 126 with Graph on, written out.
const figures = "   █⅟³⁵⁷°±→…÷↓▔⎺⎻━─┄⎼⎽₀₁₂₃₄₅₆₇₈₉¶"

// identity is what Z replies.
const identity = "\x1b/K"

// small is sizes of which everything is tried: of one cell, one row, one column, and about the columns of tabs.
var small = []api.Size{size(1, 1), size(1, 2), size(1, 9), size(3, 1), size(2, 8), size(3, 5), size(2, 10), size(3, 17)}

// blank is a cell in which there is nothing.
var blank = api.Cell{Glyph: ' '}

func pos(row, col int) api.Pos     { return api.Pos{Row: row, Col: col} }
func size(rows, cols int) api.Size { return api.Size{Rows: rows, Cols: cols} }

// every is all places of a size.
func every(z api.Size) []api.Pos {
	var all []api.Pos
	for n := range z.Rows * z.Cols {
		all = append(all, pos(n/z.Cols, n%z.Cols))
	}
	return all
}

// bytes is all bytes, each as a text.
func bytes() []string {
	var all []string
	for b := range 256 {
		all = append(all, string([]byte{byte(b)}))
	}
	return all
}

// tell is the bytes that let the cursor go to a place.
func tell(p api.Pos) string {
	return "\x1bY" + string([]byte{byte(32 + p.Row), byte(32 + p.Col)})
}

// rig is a terminal, the screen and the queue that it was made with, and what all three should be.
type rig struct {
	t    testing.TB
	x    *vt52.Term
	s    *screen.Screen
	q    *queue.Queue
	want plain
	fed  string
}

// of is a rig of a size, no two cells of which are the same, its cursor at a place, and its queue without room for more than most bytes.
func of(t testing.TB, z api.Size, cursor api.Pos, most int) *rig {
	t.Helper()
	s, e := screen.New(z)
	if e != api.OK {
		t.Fatalf("a screen of %v: %d", z, int(e))
	}
	for n, p := range every(z) {
		s.Set(p, api.Cell{Glyph: rune(0x4e00 + n)})
	}
	s.Move(cursor)
	return on(t, s, most)
}

// board is a rig of rows that are parted by strokes, and its cursor.
func board(t testing.TB, rows string, cursor api.Pos) *rig {
	t.Helper()
	l := strings.Split(rows, "/")
	s, _ := screen.New(size(len(l), len(l[0])))
	for row, text := range l {
		for col, r := range text {
			s.Set(pos(row, col), api.Cell{Glyph: r})
		}
	}
	s.Move(cursor)
	return on(t, s, 100)
}

// on is a rig of a screen.
func on(t testing.TB, s *screen.Screen, most int) *rig {
	t.Helper()
	q, e := queue.New(most)
	x, f := vt52.On(s, q)
	if e != api.OK || f != api.OK || x == nil {
		t.Fatalf("On: %v, %d, %d", x, int(e), int(f))
	}
	r := &rig{t: t, x: x, s: s, q: q, want: plainly(s)}
	r.want.most = most
	return r
}

// feed feeds a text in one piece, and fails unless it did what it should.
func (r *rig) feed(text string) *rig {
	r.t.Helper()
	r.fed += text
	r.x.Feed(text)
	for _, b := range []byte(text) {
		r.want.feed(b)
	}
	r.is()
	return r
}

// is fails unless all is as it should be.
func (r *rig) is() {
	r.t.Helper()
	p, pends := r.s.Cursor()
	if p != r.want.at || pends {
		r.t.Fatalf("%s: the cursor is at %v, %v, not at %v", r.brief(), p, pends, r.want.at)
	}
	if m := r.x.Modes(); m != r.want.modes {
		r.t.Fatalf("%s: %v are on, not %v", r.brief(), m, r.want.modes)
	}
	if s := r.x.Pending(); s != r.want.pending {
		r.t.Fatalf("%s: %q is pending, not %q", r.brief(), s, r.want.pending)
	}
	if s := r.q.Copy().Drain(); s != r.want.replies || r.q.Over() != r.want.over {
		r.t.Fatalf("%s: %q waits, over %v, not %q, %v", r.brief(), s, r.q.Over(), r.want.replies, r.want.over)
	}
	for row, l := range r.s.Rows() {
		if !slices.Equal(l, r.want.row(row)) {
			r.t.Fatalf("%s: row %d is %v, not %v", r.brief(), row, l, r.want.row(row))
		}
	}
}

// brief is what was fed: of very many bytes the last ones.
func (r *rig) brief() string {
	return fmt.Sprintf("%v, %d bytes, ..%q", r.want.z, len(r.fed), r.fed[max(0, len(r.fed)-60):])
}

// shows fails unless the screen has these rows, parted by strokes, and the cursor is there.
func (r *rig) shows(rows string, cursor api.Pos) {
	r.t.Helper()
	var l []string
	for _, row := range r.s.Rows() {
		text := ""
		for _, c := range row {
			text += string(c.Glyph)
			if c != (api.Cell{Glyph: c.Glyph}) {
				r.t.Errorf("%q: %v is more than a glyph", r.fed, c)
			}
		}
		l = append(l, text)
	}
	if p, pends := r.s.Cursor(); strings.Join(l, "/") != rows || p != cursor || pends {
		r.t.Errorf("%q: %q, %v, %v, not %q, %v", r.fed, strings.Join(l, "/"), p, pends, rows, cursor)
	}
}

// play is a board and its cursor, a text that is fed, and what the board and the cursor should be then.
type play struct {
	rows string
	from api.Pos
	text string
	want string
	to   api.Pos
}

// plays fails unless each text does to its board what it should.
func plays(t *testing.T, l ...play) {
	t.Helper()
	for _, p := range l {
		board(t, p.rows, p.from).feed(p.text).shows(p.want, p.to)
	}
}

// goes fails unless a text lets the cursor go from one place to another, and turns nothing else.
func goes(t *testing.T, z api.Size, from api.Pos, text string, to api.Pos) {
	t.Helper()
	r := of(t, z, from, 10)
	was := r.s.Rows()
	r.x.Feed(text)
	if p, pends := r.s.Cursor(); p != to || pends {
		t.Errorf("%q from %v of %v: %v, %v, not %v", text, from, z, p, pends, to)
	}
	if !same(was, r.s.Rows()) || r.x.Modes() != (vt52.Modes{}) || r.x.Pending() != "" || r.q.Len() != 0 {
		t.Errorf("%q from %v of %v turns more than the cursor", text, from, z)
	}
}

// same tells whether rows are the same.
func same(a, b [][]api.Cell) bool {
	return slices.EqualFunc(a, b, func(x, y []api.Cell) bool { return slices.Equal(x, y) })
}

// plain is a terminal as its words tell it, and its screen and queue.
type plain struct {
	z       api.Size
	cells   []api.Cell
	at      api.Pos
	modes   vt52.Modes
	pending string
	most    int
	replies string
	over    bool
}

// plainly is what a terminal that is just made should be.
func plainly(s *screen.Screen) plain {
	p, _ := s.Cursor()
	return plain{z: s.Size(), cells: slices.Concat(s.Rows()...), at: p}
}

func (m *plain) row(n int) []api.Cell { return m.cells[n*m.z.Cols : (n+1)*m.z.Cols] }

// feed does what a byte should do.
func (m *plain) feed(b byte) {
	was := m.pending
	m.pending = ""
	switch {
	case b == 27:
		m.pending = "\x1b"
	case was == "":
		m.alone(b)
	case was == "\x1b" && b == 'Y', len(was) == 2:
		m.pending = was + string([]byte{b})
	case was == "\x1b":
		m.second(b)
	default:
		m.told(int(was[2])-32, int(b)-32)
	}
}

// alone does what a byte should do outside of a sequence.
func (m *plain) alone(b byte) {
	switch b {
	case 8:
		m.step(0, -1)
	case 9:
		for col := m.at.Col + 1; col < m.z.Cols; col++ {
			if col%8 == 0 {
				m.at.Col = col
				return
			}
		}
		m.step(0, 1)
	case 10:
		if m.at.Row == m.z.Rows-1 {
			m.cells = slices.Concat(m.cells[m.z.Cols:], slices.Repeat([]api.Cell{blank}, m.z.Cols))
		}
		m.step(1, 0)
	case 13:
		m.at.Col = 0
	}
	if b >= 32 && b <= 126 {
		m.row(m.at.Row)[m.at.Col] = api.Cell{Glyph: m.glyph(b)}
		m.step(0, 1)
	}
}

// second does what a byte should do behind 27.
func (m *plain) second(b byte) {
	here := m.at.Row*m.z.Cols + m.at.Col
	switch b {
	case 'A':
		m.step(-1, 0)
	case 'B':
		m.step(1, 0)
	case 'C':
		m.step(0, 1)
	case 'D':
		m.step(0, -1)
	case 'H':
		m.at = api.Pos{}
	case 'I':
		if m.at.Row == 0 {
			m.cells = slices.Concat(slices.Repeat([]api.Cell{blank}, m.z.Cols), m.cells[:len(m.cells)-m.z.Cols])
		}
		m.step(-1, 0)
	case 'J':
		m.wipe(here, len(m.cells))
	case 'K':
		m.wipe(here, (m.at.Row+1)*m.z.Cols)
	case 'F', 'G':
		m.modes.Graph = b == 'F'
	case '=', '>':
		m.modes.Keypad = b == '='
	case '[', '\\':
		m.modes.Hold = b == '['
	case 'Z':
		m.reply()
	}
}

// told does what the bytes of a row and a column should do.
func (m *plain) told(row, col int) {
	for n := range m.z.Rows {
		if n == row {
			m.at.Row = n
		}
	}
	if col >= 0 {
		m.at.Col = min(col, m.z.Cols-1)
	}
}

func (m *plain) step(rows, cols int) {
	m.at.Row = max(0, min(m.at.Row+rows, m.z.Rows-1))
	m.at.Col = max(0, min(m.at.Col+cols, m.z.Cols-1))
}

func (m *plain) wipe(from, end int) {
	for n := from; n < end; n++ {
		m.cells[n] = blank
	}
}

func (m *plain) reply() {
	if len(m.replies)+len(identity) > m.most {
		m.over = true
		return
	}
	m.replies += identity
}

// glyph is the glyph of a byte from 32 to 126.
func (m *plain) glyph(b byte) rune {
	if m.modes.Graph && b >= 94 {
		return []rune(figures)[b-94]
	}
	return rune(b)
}
