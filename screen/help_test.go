package screen_test

import (
	"math"
	"slices"
	"testing"

	"vizard/api"
	"vizard/screen"
	"vizard/walk"
	"vizard/wipe"
)

// far is numbers that lead beyond every edge, those among them of which the low bits are small.
var far = []int{1 << 31, -1 << 31, 1 << 32, 1<<32 + 1, -1<<32 + 1, 1 << 62, -1 << 62, math.MaxInt, math.MaxInt - 1, math.MinInt, math.MinInt + 1}

// dot is like no cell of a board, lock is neither and is guarded; blank is what fills a screen.
var (
	dot   = api.Cell{Glyph: '.', Attr: api.Under, Mark: -1}
	lock  = api.Cell{Glyph: '#', Attr: api.Dim, Guard: true, Mark: -2}
	blank = api.Cell{Glyph: ' '}
)

// small is sizes of which everything is tried: of one cell, one row and one column among them.
var small = []api.Size{size(1, 1), size(1, 3), size(3, 1), size(2, 2), size(2, 3), size(3, 2)}

// wraps is the ways to wrap, and numbers that are none, those among them of which the low bits are one.
var wraps = append([]int{walk.Clamp, walk.Auto, walk.Pend, 0, 4, -1, -2, 256 + 1, 256 + 2, 1<<32 + 2}, far...)

// parts is all parts, and noParts numbers that are none.
var (
	parts   = []int{wipe.All, wipe.ToEnd, wipe.ToStart, wipe.Line, wipe.LineEnd, wipe.LineStart}
	noParts = append([]int{0, 7, -1, -6, 256 + 1, 1<<32 + 6}, far...)
)

// badSizes is sizes that may not be: no rows, no columns, below 0, above 255.
var badSizes = []api.Size{
	{}, size(0, 3), size(2, 0), size(-1, 3), size(2, -1), size(-1, -1), size(256, 3), size(2, 256), size(256, 256),
	size(1<<32+2, 3), size(2, 1<<32+3), size(math.MinInt, 3), size(2, math.MinInt), size(math.MaxInt, 3), size(2, math.MaxInt),
	size(math.MaxInt, math.MaxInt), size(math.MinInt, math.MinInt),
}

func pos(row, col int) api.Pos        { return api.Pos{Row: row, Col: col} }
func size(rows, cols int) api.Size    { return api.Size{Rows: rows, Cols: cols} }
func at(row, col int) walk.Place      { return walk.Place{Pos: pos(row, col)} }
func pending(row, col int) walk.Place { return walk.Place{Pos: pos(row, col), Pending: true} }

// steps is how far things go where there are so many of them: by none, by few, by all of them, by more, and by far more.
func steps(count int) []int {
	all := slices.Clone(far)
	for n := -count - 2; n <= count+2; n++ {
		all = append(all, n)
	}
	return append(all, 255, 256, -255, -256)
}

// beyond is rows or columns that are not there, where there are so many.
func beyond(count int) []int {
	return append([]int{-1, -2, -count, count, count + 1, 255, 256, -256}, far...)
}

// everywhere is places of a size: all that are there, and ones beyond each edge.
func everywhere(z api.Size) []api.Pos {
	return places(z, beyond)
}

// around is fewer of them, so that each may be tried with each other one.
func around(z api.Size) []api.Pos {
	return places(z, func(count int) []int { return []int{-1, count, math.MinInt, math.MaxInt, 1<<32 + 1} })
}

// places is all places of a size, and ones whose row or column is one of those that off tells.
func places(z api.Size, off func(count int) []int) []api.Pos {
	numbers := func(count int) []int {
		all := off(count)
		for n := range count {
			all = append(all, n)
		}
		return all
	}
	var all []api.Pos
	for _, row := range numbers(z.Rows) {
		for _, col := range numbers(z.Cols) {
			all = append(all, pos(row, col))
		}
	}
	return all
}

// there tells whether a place is one of a size.
func there(z api.Size, p api.Pos) bool {
	return p.Row >= 0 && p.Row < z.Rows && p.Col >= 0 && p.Col < z.Cols
}

// cursors is where a cursor may be: at all places, and Pending in the last column of each row.
func cursors(z api.Size) []walk.Place {
	var all []walk.Place
	for row := range z.Rows {
		for col := range z.Cols {
			all = append(all, at(row, col))
		}
		all = append(all, pending(row, z.Cols-1))
	}
	return all
}

// none lets no cell be guarded, every all of them.
func none(int) bool  { return false }
func every(int) bool { return true }

// bits lets the cells be guarded, row by row, whose bits of a number are set.
func bits(number int) func(int) bool {
	return func(n int) bool { return number>>n&1 == 1 }
}

// made is a screen of a size, no two cells of which are the same, and its cursor; those cells are guarded of which guarded says so.
func made(t testing.TB, z api.Size, cursor walk.Place, guarded func(n int) bool, stops ...int) *screen.Screen {
	t.Helper()
	s, e := screen.New(z)
	if e != api.OK {
		t.Fatalf("New of %v: %d", z, int(e))
	}
	for n := range z.Rows * z.Cols {
		c := api.Cell{Glyph: rune('a' + n%26), Attr: n % (api.All + 1), Guard: guarded(n), Mark: n + 1}
		if e := s.Set(pos(n/z.Cols, n%z.Cols), c); e != api.OK {
			t.Fatalf("Set of %d: %d", n, int(e))
		}
	}
	for _, col := range stops {
		s.Stop(col, true)
	}
	stand(t, s, cursor)
	return s
}

// stand lets a screen's cursor be at a place; for a Pending one the cell there is put once more.
func stand(t testing.TB, s *screen.Screen, p walk.Place) {
	t.Helper()
	s.Move(p.Pos)
	if p.Pending {
		c, _ := s.At(p.Pos)
		s.Put(c, walk.Pend, false)
	}
	if q, is := s.Cursor(); q != p.Pos || is != p.Pending {
		t.Fatalf("the cursor is at %v, %v, not %v", q, is, p)
	}
}

// board is a screen of texts, whose capitals are guarded, and its cursor.
func board(t testing.TB, cursor walk.Place, rows ...string) *screen.Screen {
	t.Helper()
	cols := len(rows[0])
	s := made(t, size(len(rows), cols), at(0, 0), none)
	for n := range len(rows) * cols {
		p := pos(n/cols, n%cols)
		b := rows[p.Row][p.Col]
		s.Set(p, glyph(b))
	}
	stand(t, s, cursor)
	return s
}

// glyph is the cell of a byte; a capital is guarded.
func glyph(b byte) api.Cell {
	return api.Cell{Glyph: rune(b), Guard: b >= 'A' && b <= 'Z'}
}

// text is the glyphs of a screen, a stroke behind each row.
func text(s *screen.Screen) string {
	var out []rune
	for _, row := range s.Rows() {
		for _, c := range row {
			out = append(out, c.Glyph)
		}
		out = append(out, '/')
	}
	return string(out)
}

// is fails unless a screen has these glyphs, and its cursor there.
func is(t *testing.T, what string, s *screen.Screen, want string, cursor walk.Place) {
	t.Helper()
	if p, pends := s.Cursor(); text(s) != want || p != cursor.Pos || pends != cursor.Pending {
		t.Errorf("%s: %q, %v, %v, not %q, %v", what, text(s), p, pends, want, cursor)
	}
}

// refuses fails unless a call answers an error.
func refuses(t *testing.T, what string, got, want api.Errno) {
	t.Helper()
	if got != want {
		t.Errorf("%s: %d, not %d", what, int(got), int(want))
	}
}

// act is a call, and what it should do to a plain screen; both tell what is answered.
type act struct {
	what   []any
	do     func(s *screen.Screen) any
	should func(m *plain) any
}

// does fails unless calls, one behind the other, do to a screen what they should do to a plain one, each of them.
func does(t *testing.T, s *screen.Screen, acts ...act) {
	t.Helper()
	m := plainly(s)
	for i, a := range acts {
		was := m.copy()
		want := a.should(m)
		if got := a.do(s); got != want || !m.same(s) {
			t.Errorf("%v, call %d, of %v: %v, %v, not %v, %v", a.what, i, *was, got, *plainly(s), want, *m)
			return
		}
	}
}

// silent is a call that answers nothing.
func silent(do func(s *screen.Screen), should func(m *plain), what ...any) act {
	return act{
		what:   what,
		do:     func(s *screen.Screen) any { do(s); return nil },
		should: func(m *plain) any { should(m); return nil },
	}
}

func moving(p api.Pos) act {
	return silent(func(s *screen.Screen) { s.Move(p) }, func(m *plain) { m.move(p) }, "Move", p)
}

func stepping(rows, cols int) act {
	return silent(func(s *screen.Screen) { s.Step(rows, cols) }, func(m *plain) { m.step(rows, cols) }, "Step", rows, cols)
}

func feeding(n int) act {
	return silent(func(s *screen.Screen) { s.Feed(n) }, func(m *plain) { m.feed(n) }, "Feed", n)
}

func putting(c api.Cell, wrap int, guard bool) act {
	return silent(func(s *screen.Screen) { s.Put(c, wrap, guard) }, func(m *plain) { m.put(c, wrap, guard) }, "Put", c, wrap, guard)
}

func tabbing(n int) act {
	return silent(func(s *screen.Screen) { s.Tab(n) }, func(m *plain) { m.tab(n) }, "Tab", n)
}

func stopping(col int, on bool) act {
	return silent(func(s *screen.Screen) { s.Stop(col, on) }, func(m *plain) { m.stop(col, on) }, "Stop", col, on)
}

func stopsEvery(n int) act {
	return silent(func(s *screen.Screen) { s.Stops(n) }, func(m *plain) { m.stopsEvery(n) }, "Stops", n)
}

func wiping(from, to api.Pos, c api.Cell, guard bool) act {
	return silent(func(s *screen.Screen) { s.Wipe(from, to, c, guard) }, func(m *plain) { m.wipe(from, to, c, guard) }, "Wipe", from, to, c, guard)
}

func parting(part int, c api.Cell, guard bool) act {
	return silent(func(s *screen.Screen) { s.Part(part, c, guard) }, func(m *plain) { m.part(part, c, guard) }, "Part", part, c, guard)
}

func lining(n int, c api.Cell, guard bool) act {
	return silent(func(s *screen.Screen) { s.Lines(n, c, guard) }, func(m *plain) { m.lines(n, c, guard) }, "Lines", n, c, guard)
}

func charring(n int, c api.Cell, guard bool) act {
	return silent(func(s *screen.Screen) { s.Chars(n, c, guard) }, func(m *plain) { m.chars(n, c, guard) }, "Chars", n, c, guard)
}

func setting(p api.Pos, c api.Cell) act {
	return act{[]any{"Set", p, c}, func(s *screen.Screen) any { return s.Set(p, c) }, func(m *plain) any { return m.set(p, c) }}
}

func freeing(back bool) act {
	return act{[]any{"Free", back}, func(s *screen.Screen) any { return s.Free(back) }, func(m *plain) any { return m.free(back) }}
}

func resizing(z api.Size) act {
	return act{[]any{"Resize", z}, func(s *screen.Screen) any { return s.Resize(z) }, func(m *plain) any { return m.resize(z) }}
}
