package ink_test

import (
	"math"
	"slices"
	"testing"

	"vizard/api"
	"vizard/grid"
	"vizard/ink"
	"vizard/walk"
)

// P8.1: from the first place, one in the middle, the last one, and places that are not there; round the end and the beginning. Capitals are guarded.
func TestFreeAndLast(t *testing.T) {
	first, last := pos(0, 0), pos(1, 2)
	for _, c := range []struct {
		rows       []string
		p          api.Pos
		free, back api.Pos
	}{
		{[]string{"abc", "def"}, first, first, first},
		{[]string{"abc", "def"}, pos(0, 2), pos(0, 2), pos(0, 2)},
		{[]string{"abc", "def"}, last, last, last},
		{[]string{"abc", "def"}, pos(-1, 1), pos(0, 1), pos(0, 1)},
		{[]string{"abc", "def"}, pos(2, 1), pos(1, 1), pos(1, 1)},
		{[]string{"abc", "def"}, pos(0, 3), pos(0, 2), pos(0, 2)},
		{[]string{"abc", "def"}, pos(1, -1), pos(1, 0), pos(1, 0)},
		{[]string{"abc", "def"}, pos(math.MaxInt, math.MaxInt), last, last},
		{[]string{"abc", "def"}, pos(math.MinInt, math.MinInt), first, first},
		{[]string{"abc", "def"}, pos(math.MaxInt, math.MinInt), pos(1, 0), pos(1, 0)},
		{[]string{"abc", "def"}, pos(math.MinInt, math.MaxInt), pos(0, 2), pos(0, 2)},
		{[]string{"Abc", "def"}, first, pos(0, 1), last},
		{[]string{"abc", "deF"}, last, first, pos(1, 1)},
		{[]string{"abC", "Def"}, pos(0, 2), pos(1, 1), pos(0, 1)},
		{[]string{"abC", "Def"}, pos(1, 0), pos(1, 1), pos(0, 1)},
		{[]string{"ABc", "dEF"}, first, pos(0, 2), pos(1, 0)},
		{[]string{"ABc", "dEF"}, last, pos(0, 2), pos(1, 0)},
		{[]string{"ABc", "dEF"}, pos(9, 9), pos(0, 2), pos(1, 0)},
		{[]string{"ABc", "dEF"}, pos(-9, -9), pos(0, 2), pos(1, 0)},
		{[]string{"AbC", "DEF"}, pos(0, 1), pos(0, 1), pos(0, 1)},
		{[]string{"AbC", "DEF"}, pos(0, 0), pos(0, 1), pos(0, 1)},
		{[]string{"AbC", "DEF"}, pos(0, 2), pos(0, 1), pos(0, 1)},
		{[]string{"AbC", "DEF"}, last, pos(0, 1), pos(0, 1)},
		{[]string{"a"}, pos(0, 0), pos(0, 0), pos(0, 0)},
		{[]string{"a"}, pos(math.MaxInt, math.MinInt), pos(0, 0), pos(0, 0)},
	} {
		g := board(t, c.rows...)
		if p, ok := ink.Free(g, c.p); p != c.free || !ok {
			t.Errorf("Free(%v, %v): %v, %v, not %v", c.rows, c.p, p, ok, c.free)
		}
		if p, ok := ink.Last(g, c.p); p != c.back || !ok {
			t.Errorf("Last(%v, %v): %v, %v, not %v", c.rows, c.p, p, ok, c.back)
		}
	}
}

// P8.1: where all cells are guarded there is none, from wherever it is looked for.
func TestFreeAndLastOfNone(t *testing.T) {
	for _, s := range append([]api.Size{{Rows: 24, Cols: 80}}, small...) {
		g := made(t, s, every)
		for _, p := range []api.Pos{pos(0, 0), pos(s.Rows/2, s.Cols/2), pos(s.Rows-1, s.Cols-1), pos(-1, -1), pos(s.Rows, s.Cols), pos(math.MaxInt, math.MinInt), pos(math.MinInt, math.MaxInt)} {
			if q, ok := ink.Free(g, p); q != pos(0, 0) || ok {
				t.Errorf("Free of %v at %v: %v, %v", s, p, q, ok)
			}
			if q, ok := ink.Last(g, p); q != pos(0, 0) || ok {
				t.Errorf("Last of %v at %v: %v, %v", s, p, q, ok)
			}
		}
	}
}

// P8.1: whichever cells are guarded, from all places, and from ones beyond each edge.
func TestFreeAndLastOfAnyCells(t *testing.T) {
	for _, s := range small {
		for number := range 1 << (s.Rows * s.Cols) {
			g := made(t, s, bits(number))
			for _, p := range everywhere(s) {
				finds(t, g, p)
			}
		}
	}
}

// P8.1: of one row, of one column, and of the greatest grid, with one cell alone that is not guarded: ahead of the place, at it, behind it.
func TestFreeAndLastOfTheGreatest(t *testing.T) {
	for _, s := range []api.Size{{Rows: 1, Cols: 255}, {Rows: 255, Cols: 1}, {Rows: 255, Cols: 255}} {
		count := s.Rows * s.Cols
		for _, free := range []int{0, 1, count / 2, count - 2, count - 1} {
			g := made(t, s, but(free))
			want := pos(free/s.Cols, free%s.Cols)
			for _, n := range []int{0, free, (free + 1) % count, count / 3, count - 1} {
				p := pos(n/s.Cols, n%s.Cols)
				a, is := ink.Free(g, p)
				b, has := ink.Last(g, p)
				if a != want || !is || b != want || !has {
					t.Errorf("of %v, %d free, at %v: %v, %v and %v, %v", s, free, p, a, is, b, has)
				}
			}
		}
	}
}

// P8.1: only Guard counts: neither glyph, nor attributes, nor mark.
func TestFreeCountsGuardAlone(t *testing.T) {
	for _, c := range []api.Cell{{}, {Glyph: ' '}, {Glyph: 'A', Attr: api.All}, {Attr: -1}, {Mark: 9}, {Glyph: -1, Mark: -1}} {
		g := made(t, api.Size{Rows: 2, Cols: 2}, every)
		g.Set(pos(1, 0), c)
		a, is := ink.Free(g, pos(0, 0))
		b, has := ink.Last(g, pos(0, 0))
		if a != pos(1, 0) || !is || b != pos(1, 0) || !has {
			t.Errorf("%v: %v, %v, %v, %v", c, a, is, b, has)
		}
		c.Guard = true
		g.Set(pos(1, 0), c)
		if p, ok := ink.Free(g, pos(0, 0)); ok {
			t.Errorf("%v: %v is free", c, p)
		}
	}
}

// P8.2: the chapter's example; each way of wrapping in the middle, in the last column, in the last row, and in both; Pending places there and elsewhere; places that are not there.
func TestPut(t *testing.T) {
	for _, c := range []struct {
		rows  []string
		at    walk.Place
		wrap  int
		want  string
		next  walk.Place
		lines int
	}{
		{[]string{"ab", "cd"}, at(1, 1), walk.Auto, "cx/../", at(1, 0), 1},
		{[]string{"abc", "def"}, at(0, 0), walk.Clamp, "xbc/def/", at(0, 1), 0},
		{[]string{"abc", "def"}, at(0, 0), walk.Auto, "xbc/def/", at(0, 1), 0},
		{[]string{"abc", "def"}, at(0, 0), walk.Pend, "xbc/def/", at(0, 1), 0},
		{[]string{"abc", "def"}, at(0, 1), walk.Auto, "axc/def/", at(0, 2), 0},
		{[]string{"abc", "def"}, at(0, 2), walk.Clamp, "abx/def/", at(0, 2), 0},
		{[]string{"abc", "def"}, at(0, 2), walk.Auto, "abx/def/", at(1, 0), 0},
		{[]string{"abc", "def"}, at(0, 2), walk.Pend, "abx/def/", pending(0, 2), 0},
		{[]string{"abc", "def"}, at(1, 1), walk.Clamp, "abc/dxf/", at(1, 2), 0},
		{[]string{"abc", "def"}, at(1, 1), walk.Auto, "abc/dxf/", at(1, 2), 0},
		{[]string{"abc", "def"}, at(1, 1), walk.Pend, "abc/dxf/", at(1, 2), 0},
		{[]string{"abc", "def"}, at(1, 2), walk.Clamp, "abc/dex/", at(1, 2), 0},
		{[]string{"abc", "def"}, at(1, 2), walk.Auto, "dex/.../", at(1, 0), 1},
		{[]string{"abc", "def"}, at(1, 2), walk.Pend, "abc/dex/", pending(1, 2), 0},
		{[]string{"abc", "def"}, pending(0, 2), walk.Clamp, "abc/xef/", at(1, 1), 0},
		{[]string{"abc", "def"}, pending(0, 2), walk.Auto, "abc/xef/", at(1, 1), 0},
		{[]string{"abc", "def"}, pending(0, 2), walk.Pend, "abc/xef/", at(1, 1), 0},
		{[]string{"abc", "def"}, pending(1, 2), walk.Clamp, "def/x../", at(1, 1), 1},
		{[]string{"abc", "def"}, pending(1, 2), walk.Auto, "def/x../", at(1, 1), 1},
		{[]string{"abc", "def"}, pending(1, 2), walk.Pend, "def/x../", at(1, 1), 1},
		{[]string{"abc", "def"}, pending(0, 0), walk.Pend, "abc/xef/", at(1, 1), 0},
		{[]string{"abc", "def"}, pending(1, 1), walk.Auto, "def/x../", at(1, 1), 1},
		{[]string{"abc", "def"}, pending(9, -9), walk.Pend, "def/x../", at(1, 1), 1},
		{[]string{"abc", "def"}, pending(-9, 9), walk.Pend, "abc/xef/", at(1, 1), 0},
		{[]string{"abc", "def"}, at(-1, -1), walk.Auto, "xbc/def/", at(0, 1), 0},
		{[]string{"abc", "def"}, at(2, 3), walk.Auto, "dex/.../", at(1, 0), 1},
		{[]string{"abc", "def"}, at(2, 3), walk.Clamp, "abc/dex/", at(1, 2), 0},
		{[]string{"abc", "def"}, at(math.MaxInt, math.MinInt), walk.Pend, "abc/xef/", at(1, 1), 0},
		{[]string{"abc", "def"}, at(math.MinInt, math.MaxInt), walk.Pend, "abx/def/", pending(0, 2), 0},
		{[]string{"a", "b"}, at(0, 0), walk.Auto, "x/b/", at(1, 0), 0},
		{[]string{"a", "b"}, at(1, 0), walk.Auto, "x/./", at(1, 0), 1},
		{[]string{"a", "b"}, pending(0, 0), walk.Auto, "x/./", at(1, 0), 1},
		{[]string{"a", "b"}, pending(1, 0), walk.Auto, "x/./", at(1, 0), 2},
		{[]string{"a", "b"}, pending(1, 0), walk.Pend, "b/x/", pending(1, 0), 1},
		{[]string{"a", "b"}, pending(1, 0), walk.Clamp, "b/x/", at(1, 0), 1},
		{[]string{"a"}, at(0, 0), walk.Clamp, "x/", at(0, 0), 0},
		{[]string{"a"}, at(0, 0), walk.Auto, "./", at(0, 0), 1},
		{[]string{"a"}, at(0, 0), walk.Pend, "x/", pending(0, 0), 0},
		{[]string{"a"}, pending(0, 0), walk.Clamp, "x/", at(0, 0), 1},
		{[]string{"a"}, pending(0, 0), walk.Auto, "./", at(0, 0), 2},
		{[]string{"a"}, pending(0, 0), walk.Pend, "x/", pending(0, 0), 1},
	} {
		g := board(t, c.rows...)
		next, lines, e := ink.Put(g, c.at, x, c.wrap, dot)
		if next != c.next || lines != c.lines || e != api.OK || text(g) != c.want {
			t.Errorf("Put(%v, %v, %d): %v, %d, %d, %s, not %v, %d, %s", c.rows, c.at, c.wrap, next, lines, int(e), text(g), c.next, c.lines, c.want)
		}
	}
}

// P8.2: from all places, and from ones beyond each edge, Pending and not, with all ways of wrapping, and numbers that are none.
func TestPutAnywhere(t *testing.T) {
	for _, s := range small {
		for _, guarded := range []func(int) bool{none, every} {
			was := made(t, s, guarded)
			for _, p := range cursors(s) {
				for _, wrap := range ways {
					puts(t, was, p, x, wrap, dot)
				}
			}
		}
	}
}

// P8.2: a number that is no way to wrap is as Pend, also where its low bits are a way.
func TestPutWithWaysThatAreNone(t *testing.T) {
	for _, wrap := range others {
		g := board(t, "ab", "cd")
		next, lines, e := ink.Put(g, at(1, 1), x, wrap, dot)
		if next != pending(1, 1) || lines != 0 || e != api.OK || text(g) != "ab/cx/" {
			t.Errorf("Put, %d: %v, %d, %d, %s", wrap, next, lines, int(e), text(g))
		}
	}
}

// P8.2: guarded cells are put over, and go up, as all others are; what fills may be guarded, and so may what is put.
func TestPutDoesNotAskForGuard(t *testing.T) {
	for number := range 1 << 6 {
		was := made(t, api.Size{Rows: 2, Cols: 3}, bits(number))
		for _, p := range cursors(was.Size()) {
			for _, c := range []api.Cell{x, lock, {}} {
				puts(t, was, p, c, walk.Auto, lock)
				puts(t, was, p, c, walk.Pend, api.Cell{})
			}
		}
	}
}

// P8.2: of the greatest grid, of one row and of one column, at the corners.
func TestPutOfTheGreatest(t *testing.T) {
	for _, s := range []api.Size{{Rows: 1, Cols: 255}, {Rows: 255, Cols: 1}, {Rows: 255, Cols: 255}, {Rows: 24, Cols: 80}} {
		was := made(t, s, none)
		for _, p := range []api.Pos{pos(0, 0), pos(0, s.Cols-1), pos(s.Rows-1, 0), pos(s.Rows-1, s.Cols-1), pos(s.Rows/2, s.Cols/2), pos(255, 255), pos(256, -1)} {
			for _, wrap := range []int{walk.Clamp, walk.Auto, walk.Pend, 0} {
				puts(t, was, at(p.Row, p.Col), x, wrap, dot)
				puts(t, was, pending(p.Row, p.Col), x, wrap, dot)
			}
		}
	}
}

// P8.2: of no cell, of one, of some over the end of a row and over that of the last one, and of more than there are places.
func TestText(t *testing.T) {
	for _, c := range []struct {
		at    walk.Place
		text  string
		wrap  int
		want  string
		next  walk.Place
		lines int
	}{
		{at(0, 1), "", walk.Auto, "abc/def/", at(0, 1), 0},
		{pending(0, 2), "", walk.Pend, "abc/def/", pending(0, 2), 0},
		{pending(-7, math.MaxInt), "", walk.Clamp, "abc/def/", pending(-7, math.MaxInt), 0},
		{at(math.MinInt, 3), "", 0, "abc/def/", at(math.MinInt, 3), 0},
		{at(0, 1), "1", walk.Auto, "a1c/def/", at(0, 2), 0},
		{at(0, 1), "12", walk.Auto, "a12/def/", at(1, 0), 0},
		{at(0, 1), "12", walk.Clamp, "a12/def/", at(0, 2), 0},
		{at(0, 1), "12", walk.Pend, "a12/def/", pending(0, 2), 0},
		{at(0, 1), "1234", walk.Auto, "a12/34f/", at(1, 2), 0},
		{at(0, 1), "1234", walk.Clamp, "a14/def/", at(0, 2), 0},
		{at(0, 1), "1234", walk.Pend, "a12/34f/", at(1, 2), 0},
		{at(0, 0), "123456", walk.Auto, "456/.../", at(1, 0), 1},
		{at(0, 0), "123456", walk.Pend, "123/456/", pending(1, 2), 0},
		{at(0, 0), "123456", 7, "123/456/", pending(1, 2), 0},
		{at(0, 0), "1234567", walk.Auto, "456/7../", at(1, 1), 1},
		{at(0, 0), "1234567", walk.Pend, "456/7../", at(1, 1), 1},
		{at(0, 0), "123456789abcdef", walk.Auto, "def/.../", at(1, 0), 4},
		{at(0, 0), "123456789abcdef", walk.Pend, "abc/def/", pending(1, 2), 3},
		{at(0, 0), "123456789abcdef", walk.Clamp, "12f/def/", at(0, 2), 0},
		{at(1, 2), "123", walk.Auto, "de1/23./", at(1, 2), 1},
		{at(1, 2), "1234", walk.Auto, "234/.../", at(1, 0), 2},
		{at(1, 2), "1234", walk.Pend, "de1/234/", pending(1, 2), 1},
		{pending(1, 2), "1234", walk.Pend, "123/4../", at(1, 1), 2},
		{pending(1, 2), "1234", walk.Clamp, "def/124/", at(1, 2), 1},
		{at(9, -1), "1", walk.Auto, "abc/1ef/", at(1, 1), 0},
	} {
		g := board(t, "abc", "def")
		next, lines, e := ink.Text(g, c.at, list(c.text), c.wrap, dot)
		if next != c.next || lines != c.lines || e != api.OK || text(g) != c.want {
			t.Errorf("Text(%v, %s, %d): %v, %d, %d, %s, not %v, %d, %s", c.at, c.text, c.wrap, next, lines, int(e), text(g), c.next, c.lines, c.want)
		}
	}
}

// P8.2: of as many cells as there may be, from all places, each with all ways of wrapping: what Put of each one leaves.
func TestTextIsPutOfEach(t *testing.T) {
	for _, s := range small {
		was := made(t, s, bits(0b100110))
		for _, p := range cursors(s) {
			for count := range 2*s.Rows*s.Cols + 2 {
				for _, wrap := range []int{walk.Clamp, walk.Auto, walk.Pend, 0, 1<<32 + 2} {
					g, m := was.Copy(), plainly(was, p)
					l := list("0123456789abcdef"[:count])
					for _, c := range l {
						m.put(c, wrap, dot)
					}
					next, lines, e := ink.Text(g, p, l, wrap, dot)
					if count == 0 { // the place itself, though it is not there
						m.row, m.col = p.Row, p.Col
					}
					m.holds(t, g, next, lines, e, "Text", s, p, count, wrap)
				}
			}
		}
	}
}

// P8.2: far more cells than there are places; of Pend the last lines are seen whole, of Auto one line is left blank.
func TestTextOfManyCells(t *testing.T) {
	s := api.Size{Rows: 24, Cols: 80}
	l := make([]api.Cell, 1000*s.Cols)
	for i := range l {
		l[i] = api.Cell{Glyph: rune(i), Mark: i}
	}
	g, h := made(t, s, every), made(t, s, every)
	next, lines, e := ink.Text(g, at(0, 0), l, walk.Pend, dot)
	if next != pending(23, 79) || lines != 1000-24 || e != api.OK || !slices.Equal(slices.Concat(g.Rows()...), l[976*80:]) {
		t.Errorf("Pend: %v, %d, %d", next, lines, int(e))
	}
	next, lines, e = ink.Text(h, at(0, 0), l, walk.Auto, dot)
	want := append(slices.Clone(l[977*80:]), slices.Repeat([]api.Cell{dot}, 80)...)
	if next != at(23, 0) || lines != 1000-23 || e != api.OK || !slices.Equal(slices.Concat(h.Rows()...), want) {
		t.Errorf("Auto: %v, %d, %d", next, lines, int(e))
	}
}

// P8.2: a nil list and one without cells are the same.
func TestTextOfNoCells(t *testing.T) {
	for _, l := range [][]api.Cell{nil, {}, list("abc")[:0]} {
		was := made(t, api.Size{Rows: 2, Cols: 3}, none)
		for _, p := range cursors(was.Size()) {
			for _, wrap := range ways {
				g := was.Copy()
				if next, lines, e := ink.Text(g, p, l, wrap, dot); next != p || lines != 0 || e != api.OK || !g.Same(was) {
					t.Errorf("Text of none at %v, %d: %v, %d, %d, %s", p, wrap, next, lines, int(e), text(g))
				}
			}
		}
	}
}

// P8.3: a guarded cell under the cursor, ahead of it, behind it, and several; at the last place; Pending places; places that are not there. Capitals are guarded.
func TestGuard(t *testing.T) {
	for _, c := range []guarding{
		{[]string{"abc", "def"}, at(0, 0), "xbc/def/", at(0, 1)},
		{[]string{"abc", "def"}, at(0, 2), "abx/def/", at(1, 0)},
		{[]string{"abc", "def"}, at(1, 2), "abc/dex/", at(0, 0)},
		{[]string{"abc", "def"}, pending(1, 2), "abc/dex/", at(0, 0)},
		{[]string{"abc", "def"}, pending(0, 1), "axc/def/", at(0, 2)},
		{[]string{"aBc", "def"}, at(0, 1), "aBx/def/", at(1, 0)},
		{[]string{"aBc", "def"}, pending(0, 1), "aBx/def/", at(1, 0)},
		{[]string{"aBc", "def"}, at(0, 0), "xBc/def/", at(0, 2)},
		{[]string{"aBc", "def"}, at(0, 2), "aBx/def/", at(1, 0)},
		{[]string{"abC", "DEf"}, at(0, 1), "axC/DEf/", at(1, 2)},
		{[]string{"abC", "DEf"}, at(0, 2), "abC/DEx/", at(0, 0)},
		{[]string{"abc", "deF"}, at(1, 2), "xbc/deF/", at(0, 1)},
		{[]string{"abc", "deF"}, at(1, 1), "abc/dxF/", at(0, 0)},
		{[]string{"Abc", "dEF"}, at(1, 1), "Axc/dEF/", at(0, 2)},
		{[]string{"Abc", "def"}, at(1, 2), "Abc/dex/", at(0, 1)},
		{[]string{"abc", "def"}, at(9, 9), "abc/dex/", at(0, 0)},
		{[]string{"abc", "def"}, pending(-9, 9), "abx/def/", at(1, 0)},
		{[]string{"abc", "dEf"}, at(math.MaxInt, math.MinInt), "abc/xEf/", at(1, 2)},
		{[]string{"abc", "def"}, pending(math.MinInt, math.MinInt), "xbc/def/", at(0, 1)},
		{[]string{"AbC", "DEF"}, at(0, 0), "AxC/DEF/", at(0, 1)},
		{[]string{"AbC", "DEF"}, at(0, 1), "AxC/DEF/", at(0, 1)},
		{[]string{"AbC", "DEF"}, pending(0, 2), "AxC/DEF/", at(0, 1)},
		{[]string{"AbC", "DEF"}, at(1, 2), "AxC/DEF/", at(0, 1)},
		{[]string{"a"}, at(0, 0), "x/", at(0, 0)},
		{[]string{"a"}, pending(0, 0), "x/", at(0, 0)},
		{[]string{"a", "b"}, pending(1, 0), "a/x/", at(0, 0)},
	} {
		c.holds(t, x)
	}
}

// P8.3: a cell that is guarded itself: the cursor goes to another free one; to where it was, if that was the only one.
func TestGuardWithAGuardedCell(t *testing.T) {
	for _, c := range []guarding{
		{[]string{"abc", "def"}, at(0, 0), "#bc/def/", at(0, 1)},
		{[]string{"abc", "def"}, at(1, 2), "abc/de#/", at(0, 0)},
		{[]string{"AbC", "DeF"}, at(0, 0), "A#C/DeF/", at(1, 1)},
		{[]string{"AbC", "DeF"}, at(0, 2), "AbC/D#F/", at(0, 1)},
		{[]string{"AbC", "DeF"}, pending(1, 2), "A#C/DeF/", at(1, 1)},
		{[]string{"AbC", "DEF"}, at(0, 1), "A#C/DEF/", at(0, 1)},
		{[]string{"AbC", "DEF"}, at(0, 0), "A#C/DEF/", at(0, 0)},
		{[]string{"AbC", "DEF"}, at(1, 2), "A#C/DEF/", at(1, 2)},
		{[]string{"AbC", "DEF"}, pending(1, 2), "A#C/DEF/", at(1, 2)},
		{[]string{"AbC", "DEF"}, pending(9, -9), "A#C/DEF/", at(1, 0)},
		{[]string{"AbC", "DEF"}, at(math.MinInt, math.MaxInt), "A#C/DEF/", at(0, 2)},
		{[]string{"a"}, pending(0, 0), "#/", at(0, 0)},
		{[]string{"a"}, at(3, 3), "#/", at(0, 0)},
	} {
		c.holds(t, lock)
	}
}

// P8.3: ErrNone, and nothing is turned, where all cells are guarded.
func TestGuardOfNone(t *testing.T) {
	for _, s := range append([]api.Size{{Rows: 24, Cols: 80}}, small...) {
		was := made(t, s, every)
		for _, p := range []walk.Place{at(0, 0), at(s.Rows-1, s.Cols-1), pending(s.Rows-1, s.Cols-1), pending(-1, 999), at(math.MaxInt, math.MinInt)} {
			for _, c := range []api.Cell{x, lock, {}} {
				g := was.Copy()
				if next, e := ink.Guard(g, p, c); next != (walk.Place{}) || e != api.ErrNone || !g.Same(was) {
					t.Errorf("Guard of %v at %v: %v, %d", s, p, next, int(e))
				}
			}
		}
	}
}

// P8.3, P8.4: whichever cells are guarded, from all places, and from ones beyond each edge, Pending and not; just one cell is turned.
func TestGuardOfAnyCells(t *testing.T) {
	for _, s := range small {
		for number := range 1 << (s.Rows * s.Cols) {
			was := made(t, s, bits(number))
			for _, p := range cursors(s) {
				for _, c := range []api.Cell{x, lock, {}} {
					guards(t, was, p, c)
				}
			}
		}
	}
}

// P8.3: of the greatest grid, of one row and of one column.
func TestGuardOfTheGreatest(t *testing.T) {
	for _, s := range []api.Size{{Rows: 1, Cols: 255}, {Rows: 255, Cols: 1}, {Rows: 255, Cols: 255}} {
		count := s.Rows * s.Cols
		for _, guarded := range []func(int) bool{none, every, but(0), but(count / 2), but(count - 1), func(n int) bool { return n%7 != 3 }} {
			was := made(t, s, guarded)
			for _, p := range []walk.Place{at(0, 0), pending(s.Rows-1, s.Cols-1), at(s.Rows/2, s.Cols/2), pending(255, -1)} {
				guards(t, was, p, x)
				guards(t, was, p, lock)
			}
		}
	}
}

// P8.3: Pending does not count.
func TestGuardOfPending(t *testing.T) {
	for number := range 1 << 6 {
		was := made(t, api.Size{Rows: 2, Cols: 3}, bits(number))
		for _, p := range everywhere(was.Size()) {
			g, h := was.Copy(), was.Copy()
			a, e := ink.Guard(g, at(p.Row, p.Col), x)
			b, f := ink.Guard(h, pending(p.Row, p.Col), x)
			if a != b || e != f || !g.Same(h) || a.Pending || b.Pending {
				t.Errorf("Guard of %s at %v: %v, %d, and Pending %v, %d", text(was), p, a, int(e), b, int(f))
			}
		}
	}
}

// P8.4: no guarded cell is turned, and the cursor is on none, while there is another one, however many glyphs come.
func TestGuardLeavesGuardedCells(t *testing.T) {
	for number := range 1<<6 - 1 {
		was := made(t, api.Size{Rows: 2, Cols: 3}, bits(number))
		for _, p := range cursors(was.Size()) {
			g := was.Copy()
			for i := range 14 {
				next, e := ink.Guard(g, p, x)
				if c, _ := g.At(next.Pos); e != api.OK || next.Pending || c.Guard {
					t.Errorf("Guard of %s, the %dth one: %v, %d, on %v", text(was), i, next, int(e), c)
				}
				p = next
			}
			for q, c := range was.All() {
				now, _ := g.At(q)
				if c.Guard && now != c || !c.Guard && now != x {
					t.Errorf("%v of %s is %v", q, text(was), now)
				}
			}
		}
	}
}

// P8.3, P8.4: as many guarded cells as there are free places, one behind the other, come by all of these; then there is none.
func TestGuardedCellsFillAll(t *testing.T) {
	for number := range 1 << 6 {
		g := made(t, api.Size{Rows: 2, Cols: 3}, bits(number))
		m := plainly(g, pending(1, 1))
		p := pending(1, 1)
		for m.guard(lock) {
			next, e := ink.Guard(g, p, lock)
			m.holds(t, g, next, 0, e, "Guard", number)
			p = next
		}
		was := g.Copy()
		if next, e := ink.Guard(g, p, lock); next != (walk.Place{}) || e != api.ErrNone || !g.Same(was) {
			t.Errorf("Guard of %b, filled: %v, %d", number, next, int(e))
		}
	}
}

// P8.4: Text of two lists, one behind the other, is Text of both, wherever a list is parted.
func TestTextOfTwoLists(t *testing.T) {
	l := list("0123456789abcdef")
	for _, s := range small {
		was := made(t, s, none)
		for _, p := range cursors(s) {
			for _, wrap := range []int{walk.Clamp, walk.Auto, walk.Pend, 0} {
				whole := was.Copy()
				end, all, _ := ink.Text(whole, p, l, wrap, dot)
				for i := range len(l) + 1 {
					g := was.Copy()
					middle, n, _ := ink.Text(g, p, l[:i], wrap, dot)
					next, k, e := ink.Text(g, middle, l[i:], wrap, dot)
					if next != end || n+k != all || e != api.OK || !g.Same(whole) {
						t.Errorf("Text of %v at %v, %d, parted at %d: %v, %d and %d, %s, not %v, %d, %s", s, p, wrap, i, next, n, k, text(g), end, all, text(whole))
					}
				}
			}
		}
	}
}

// P8.4: of Clamp and Pend no line goes up behind a glyph: it stands where it was put, and all others where they were.
func TestNoLineGoesUpBehindAGlyph(t *testing.T) {
	for _, s := range small {
		was := made(t, s, none)
		for _, wrap := range []int{walk.Clamp, walk.Pend} {
			for p := range was.All() {
				g, want := was.Copy(), was.Copy()
				want.Set(p, x)
				next, lines, e := ink.Put(g, at(p.Row, p.Col), x, wrap, dot)
				if lines != 0 || e != api.OK || next.Row != p.Row || !g.Same(want) {
					t.Errorf("Put of %v at %v, %d: %v, %d, %d, %s", s, p, wrap, next, lines, int(e), text(g))
				}
			}
			for _, p := range cursors(s) {
				want := 0
				if p.Pending && nearest(p.Row, s.Rows) == s.Rows-1 { // ahead of the glyph
					want = 1
				}
				if next, lines, _ := ink.Put(was.Copy(), p, x, wrap, dot); lines != want {
					t.Errorf("Put of %v at %v, %d: %v, %d lines", s, p, wrap, next, lines)
				}
			}
		}
	}
}

// P8.4: a whole screen of glyphs, and as many again, one by one: of Clamp no line goes up, of Pend only ahead of a glyph.
func TestLinesGoUpAheadOfAGlyph(t *testing.T) {
	g := made(t, api.Size{Rows: 3, Cols: 4}, none)
	p := at(0, 0)
	for i := range 24 {
		next, lines, _ := ink.Put(g, p, x, walk.Pend, dot)
		want := 0
		if i >= 12 && i%4 == 0 {
			want = 1
		}
		if lines != want {
			t.Errorf("Pend, the %dth: %d lines", i, lines)
		}
		p = next
	}
	p = at(0, 0)
	for i := range 24 {
		next, lines, _ := ink.Put(g, p, x, walk.Clamp, dot)
		if lines != 0 || next != at(0, min(i+1, 3)) {
			t.Errorf("Clamp, the %dth: %v, %d lines", i, next, lines)
		}
		p = next
	}
}

// P8.1 to P8.3, R1: of a nil grid, whatever else is told; also Text of no cell.
func TestCallsOfANilGrid(t *testing.T) {
	for _, p := range []walk.Place{at(0, 0), pending(0, 0), at(5, 7), pending(-1, 3), at(math.MaxInt, math.MinInt)} {
		a, is := ink.Free(nil, p.Pos)
		b, has := ink.Last(nil, p.Pos)
		if a != pos(0, 0) || is || b != pos(0, 0) || has {
			t.Errorf("Free and Last at %v: %v, %v, %v, %v", p, a, is, b, has)
		}
		if next, e := ink.Guard(nil, p, x); next != (walk.Place{}) || e != api.ErrNil {
			t.Errorf("Guard at %v: %v, %d", p, next, int(e))
		}
		for _, wrap := range ways {
			if next, lines, e := ink.Put(nil, p, x, wrap, dot); next != (walk.Place{}) || lines != 0 || e != api.ErrNil {
				t.Errorf("Put at %v: %v, %d, %d", p, next, lines, int(e))
			}
			for _, l := range [][]api.Cell{nil, {}, list("abc")} {
				if next, lines, e := ink.Text(nil, p, l, wrap, dot); next != (walk.Place{}) || lines != 0 || e != api.ErrNil {
					t.Errorf("Text of %d at %v: %v, %d, %d", len(l), p, next, lines, int(e))
				}
			}
		}
	}
}

// R2: the list is not written into, nor what stands behind its length; nor does the grid share it.
func TestTextLeavesItsList(t *testing.T) {
	whole := list("0123456789")
	was := slices.Clone(whole)
	g := made(t, api.Size{Rows: 2, Cols: 2}, none)
	ink.Text(g, at(0, 0), whole[2:7], walk.Auto, dot)
	if !slices.Equal(whole, was) {
		t.Errorf("the list is %v", whole)
	}
	left := g.Copy()
	clear(whole)
	if !g.Same(left) {
		t.Errorf("the grid is %v", g.Rows())
	}
}

// R3: of the same grid the same is answered and left, whatever other grids have had; and those are not turned by it.
func TestOneState(t *testing.T) {
	was := made(t, api.Size{Rows: 2, Cols: 3}, bits(0b010010))
	for _, p := range cursors(was.Size()) {
		for name, do := range map[string]func(g *grid.Grid[api.Cell]) (walk.Place, int, api.Errno){
			"Put": func(g *grid.Grid[api.Cell]) (walk.Place, int, api.Errno) { return ink.Put(g, p, x, walk.Auto, dot) },
			"Text": func(g *grid.Grid[api.Cell]) (walk.Place, int, api.Errno) {
				return ink.Text(g, p, list("1234"), walk.Pend, dot)
			},
			"Guard": func(g *grid.Grid[api.Cell]) (walk.Place, int, api.Errno) {
				next, e := ink.Guard(g, p, lock)
				return next, 0, e
			},
		} {
			g, h := was.Copy(), was.Copy()
			a, n, e := do(g)
			if !h.Same(was) {
				t.Errorf("%s at %v turned another grid", name, p)
			}
			if b, m, f := do(h); a != b || n != m || e != f || !g.Same(h) {
				t.Errorf("%s at %v: %v, %d, %d and %v, %d, %d", name, p, a, n, int(e), b, m, int(f))
			}
		}
	}
}
