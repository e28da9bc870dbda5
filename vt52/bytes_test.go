package vt52_test

import (
	"testing"

	"vizard/api"
	"vizard/queue"
	"vizard/screen"
	"vizard/vt52"
)

// P12.1: of a nil screen, of a nil queue, of both, and of neither.
func TestOn(t *testing.T) {
	s, _ := screen.New(size(2, 3))
	q, _ := queue.New(5)
	for _, c := range []struct {
		s *screen.Screen
		q *queue.Queue
	}{{nil, q}, {s, nil}, {nil, nil}} {
		if x, e := vt52.On(c.s, c.q); x != nil || e != api.ErrNil {
			t.Errorf("On(%v, %v): %v, %d", c.s, c.q, x, int(e))
		}
	}
	if x, e := vt52.On(s, q); x == nil || e != api.OK || x.Modes() != (vt52.Modes{}) || x.Pending() != "" {
		t.Errorf("On: %v, %d", x, int(e))
	}
}

// P12.1: On turns neither the screen nor the queue, whatever they have.
func TestOnTurnsNothing(t *testing.T) {
	s, _ := screen.New(size(2, 3))
	c := api.Cell{Glyph: 'x', Attr: api.Bold, Guard: true, Mark: 3}
	s.Set(pos(1, 1), c)
	s.Move(pos(1, 2))
	s.Stop(1, true)
	q, _ := queue.New(2)
	q.Push("ab")
	q.Push("c")
	vt52.On(s, q)
	if p, _ := s.Cursor(); p != pos(1, 2) || len(s.Listed()) != 1 || q.Len() != 2 || !q.Over() {
		t.Errorf("%v, %v, %d, %v", p, s.Listed(), q.Len(), q.Over())
	}
	if at, _ := s.At(pos(1, 1)); at != c {
		t.Errorf("%v, not %v", at, c)
	}
}

// P12.1: the chapter's example.
func TestExample(t *testing.T) {
	s, _ := screen.New(size(10, 20))
	q, _ := queue.New(0)
	x, _ := vt52.On(s, q)
	x.Feed("\x1bY#%x")
	if p, _ := s.Cursor(); p != pos(3, 6) {
		t.Errorf("the cursor is at %v", p)
	}
	for _, p := range every(s.Size()) {
		if c, _ := s.At(p); (c.Glyph == 'x') != (p == pos(3, 5)) || c != (api.Cell{Glyph: c.Glyph}) {
			t.Errorf("%v: %v", p, c)
		}
	}
}

// P12.1: 8 leads to the left by one, from the first column nowhere.
func TestLeft(t *testing.T) {
	for _, z := range append([]api.Size{size(255, 255)}, small...) {
		for _, col := range []int{0, 1, z.Cols / 2, z.Cols - 1} {
			from := pos(z.Rows-1, min(col, z.Cols-1))
			goes(t, z, from, "\b", pos(from.Row, max(0, from.Col-1)))
			goes(t, z, from, "\b\b\b", pos(from.Row, max(0, from.Col-3)))
		}
	}
}

// P12.1: 9 ahead of, on and behind each multiple of 8, and where none is left.
func TestTab(t *testing.T) {
	for _, c := range []struct{ cols, from, to int }{
		{20, 0, 8}, {20, 1, 8}, {20, 7, 8}, {20, 8, 16}, {20, 9, 16}, {20, 15, 16}, {20, 16, 17}, {20, 17, 18}, {20, 18, 19}, {20, 19, 19},
		{1, 0, 0}, {2, 0, 1}, {2, 1, 1}, {7, 0, 1}, {7, 5, 6}, {7, 6, 6}, {8, 0, 1}, {8, 6, 7}, {8, 7, 7}, {9, 0, 8}, {9, 7, 8}, {9, 8, 8},
		{16, 7, 8}, {16, 8, 9}, {16, 15, 15}, {17, 8, 16}, {17, 16, 16}, {18, 16, 17}, {80, 63, 64}, {80, 71, 72}, {80, 72, 73}, {80, 79, 79},
		{132, 127, 128}, {132, 128, 129}, {132, 131, 131}, {255, 239, 240}, {255, 247, 248}, {255, 248, 249}, {255, 254, 254},
	} {
		for _, row := range []int{0, 1, 2} {
			goes(t, size(3, c.cols), pos(row, c.from), "\t", pos(row, c.to))
		}
	}
	for _, cols := range []int{8, 9, 17, 80, 255} {
		for from := range cols {
			to := from + 1
			for to%8 != 0 {
				to++
			}
			if to >= cols {
				to = min(from+1, cols-1)
			}
			goes(t, size(1, cols), pos(0, from), "\t", pos(0, to))
		}
	}
}

// P12.1: 9 knows nothing of the screen's own stops.
func TestTabAmongStops(t *testing.T) {
	r := of(t, size(1, 30), pos(0, 0), 0)
	r.s.Stops(3)
	for _, want := range []int{8, 16, 24, 25, 26, 27, 28, 29, 29} {
		r.feed("\t")
		if p, _ := r.s.Cursor(); p.Col != want {
			t.Errorf("the cursor is in column %d, not %d", p.Col, want)
		}
	}
	if l := r.s.Listed(); len(l) != 9 {
		t.Errorf("the stops are %v", l)
	}
}

// P12.1: 10 leads down in its column; from the last row the lines go up.
func TestLineFeed(t *testing.T) {
	rows := "ab/cd/ef"
	plays(t,
		play{rows, pos(0, 0), "\n", rows, pos(1, 0)},
		play{rows, pos(0, 1), "\n\n", rows, pos(2, 1)},
		play{rows, pos(1, 1), "\n", rows, pos(2, 1)},
		play{rows, pos(2, 0), "\n", "cd/ef/  ", pos(2, 0)},
		play{rows, pos(2, 1), "\n\n", "ef/  /  ", pos(2, 1)},
		play{rows, pos(0, 1), "\n\n\n\n\n\n", "  /  /  ", pos(2, 1)},
		play{rows, pos(1, 1), "\nx\ny", "cd/ex/ y", pos(2, 1)},
		play{"abc", pos(0, 1), "\n", "   ", pos(0, 1)},
		play{"a", pos(0, 0), "\n", " ", pos(0, 0)},
	)
}

// P12.1: 13 leads to the first column of its row.
func TestFirstColumn(t *testing.T) {
	for _, z := range append([]api.Size{size(24, 80), size(255, 255)}, small...) {
		for _, from := range []api.Pos{pos(0, 0), pos(0, z.Cols-1), pos(z.Rows-1, z.Cols/2), pos(z.Rows-1, z.Cols-1)} {
			goes(t, z, from, "\r", pos(from.Row, 0))
		}
	}
}

// P12.1: each byte from 32 to 126 is its glyph, with Graph off and on, and leads to the right by one.
func TestGlyphs(t *testing.T) {
	for b := byte(32); b <= 126; b++ {
		ascii, graph := rune(b), rune(b)
		if b >= 94 {
			graph = []rune(figures)[b-94]
		}
		for _, c := range []struct {
			ahead string
			want  rune
		}{{"", ascii}, {"\x1bF", graph}, {"\x1bF\x1bG", ascii}, {"\x1bG\x1bF", graph}, {"\x1bF\x1bF", graph}, {"\x1b=\x1b[", ascii}} {
			r := board(t, "###/###", pos(1, 1))
			r.feed(c.ahead + string([]byte{b}))
			r.shows("###/#"+string(c.want)+"#", pos(1, 2))
		}
	}
}

// P12.1: in the last column a glyph is put, and the cursor stays, also in the last row, whatever is put behind it.
func TestGlyphInTheLastColumn(t *testing.T) {
	rows := "abc/def"
	plays(t,
		play{rows, pos(0, 2), "x", "abx/def", pos(0, 2)},
		play{rows, pos(0, 2), "xy", "aby/def", pos(0, 2)},
		play{rows, pos(0, 0), "vwxyz", "vwz/def", pos(0, 2)},
		play{rows, pos(1, 2), "x", "abc/dex", pos(1, 2)},
		play{rows, pos(1, 1), "xyz", "abc/dxz", pos(1, 2)},
		play{rows, pos(0, 2), "\x1bFaz", "ab₆/def", pos(0, 2)},
		play{rows, pos(0, 2), "x\by", "ayx/def", pos(0, 2)},
		play{rows, pos(0, 2), "x\nz", "abx/dez", pos(1, 2)},
		play{rows, pos(0, 2), "x\n\ry", "abx/yef", pos(1, 1)},
		play{"a/b", pos(0, 0), "xyz", "z/b", pos(0, 0)},
		play{"a", pos(0, 0), "xy", "y", pos(0, 0)},
	)
}

// P12.1: a glyph is without attributes, not protected and not marked, also where such a cell was.
func TestGlyphOverOtherCells(t *testing.T) {
	for _, text := range []string{"xyz", "\x1bFxyz", "\x1bJ", "\x1bK", "\n", "\x1bI"} {
		s, _ := screen.New(size(1, 3))
		for _, p := range every(s.Size()) {
			s.Set(p, api.Cell{Glyph: '#', Attr: api.All, Guard: true, Mark: 7})
		}
		on(t, s, 5).feed(text)
		for _, p := range every(s.Size()) {
			if c, _ := s.At(p); c != (api.Cell{Glyph: c.Glyph}) || c.Glyph == '#' {
				t.Errorf("%q: %v at %v", text, c, p)
			}
		}
	}
}

// P12.1: bytes that are none of the table do nothing, also many of them.
func TestBytesThatDoNothing(t *testing.T) {
	all := ""
	for b, text := range bytes() {
		switch {
		case b == 8, b == 9, b == 10, b == 13, b == 27, b >= 32 && b <= 126:
			continue
		}
		all += text
		for _, from := range every(size(2, 3)) {
			goes(t, size(2, 3), from, text, from)
		}
	}
	if len(all) != 32-5+129 {
		t.Errorf("%d bytes", len(all))
	}
	goes(t, size(2, 3), pos(1, 1), all+all, pos(1, 1))
	r := board(t, "abc/def", pos(0, 1))
	r.feed(all + "x" + all + "é世\u0085" + "y")
	r.shows("axy/def", pos(0, 2))
}
