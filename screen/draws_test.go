package screen_test

import (
	"math"
	"testing"

	"vizard/api"
	"vizard/walk"
	"vizard/wipe"
)

// P9.3: without guard, each way of wrapping in the middle, in the last column, at the last place, and Pending; guarded cells do not count.
func TestPut(t *testing.T) {
	for _, c := range []struct {
		from walk.Place
		wrap int
		want string
		next walk.Place
	}{
		{at(0, 0), walk.Auto, "xbc/dEf/", at(0, 1)}, {at(1, 1), walk.Clamp, "abc/dxf/", at(1, 2)}, {at(0, 1), walk.Pend, "axc/dEf/", at(0, 2)},
		{at(0, 2), walk.Clamp, "abx/dEf/", at(0, 2)}, {at(0, 2), walk.Auto, "abx/dEf/", at(1, 0)}, {at(0, 2), walk.Pend, "abx/dEf/", pending(0, 2)},
		{at(0, 2), 0, "abx/dEf/", pending(0, 2)}, {at(0, 2), 4, "abx/dEf/", pending(0, 2)}, {at(1, 2), math.MinInt, "abc/dEx/", pending(1, 2)},
		{at(1, 2), walk.Clamp, "abc/dEx/", at(1, 2)}, {at(1, 2), walk.Auto, "dEx/   /", at(1, 0)}, {at(1, 2), walk.Pend, "abc/dEx/", pending(1, 2)},
		{pending(0, 2), walk.Auto, "abc/xEf/", at(1, 1)}, {pending(0, 2), walk.Clamp, "abc/xEf/", at(1, 1)}, {pending(0, 2), walk.Pend, "abc/xEf/", at(1, 1)},
		{pending(1, 2), walk.Auto, "dEf/x  /", at(1, 1)}, {pending(1, 2), walk.Clamp, "dEf/x  /", at(1, 1)}, {pending(1, 2), 7, "dEf/x  /", at(1, 1)},
	} {
		s := board(t, c.from, "abc", "dEf")
		s.Put(glyph('x'), c.wrap, false)
		is(t, "Put", s, c.want, c.next)
	}
	s := board(t, at(0, 0), "   ", "   ")
	for _, b := range []byte("abcd") {
		s.Put(glyph(b), walk.Auto, false)
	}
	is(t, "the example", s, "abc/d  /", at(1, 1))
	s = board(t, at(1, 2), "abc", "def")
	s.Put(dot, walk.Auto, false)
	if c, _ := s.At(pos(1, 0)); c != blank {
		t.Errorf("Put fills with %v", c)
	}
}

// P9.3: with guard, a guarded cell under the cursor, behind it, at the last place, Pending; no line goes up.
func TestPutWithGuard(t *testing.T) {
	for _, c := range []struct {
		rows []string
		from walk.Place
		put  byte
		want string
		next walk.Place
	}{
		{[]string{"abc", "def"}, at(0, 0), 'x', "xbc/def/", at(0, 1)},
		{[]string{"abc", "def"}, at(1, 2), 'x', "abc/dex/", at(0, 0)},
		{[]string{"abc", "def"}, pending(1, 2), 'x', "abc/dex/", at(0, 0)},
		{[]string{"abc", "def"}, pending(0, 2), 'x', "abx/def/", at(1, 0)},
		{[]string{"aBc", "def"}, at(0, 1), 'x', "aBx/def/", at(1, 0)},
		{[]string{"aBc", "def"}, at(0, 0), 'x', "xBc/def/", at(0, 2)},
		{[]string{"abC", "DEf"}, pending(0, 2), 'x', "abC/DEx/", at(0, 0)},
		{[]string{"AbC", "DEF"}, at(0, 1), 'x', "AxC/DEF/", at(0, 1)},
		{[]string{"AbC", "DEF"}, at(1, 0), 'x', "AxC/DEF/", at(0, 1)},
		{[]string{"abc", "def"}, at(0, 2), 'X', "abX/def/", at(1, 0)},
		{[]string{"AbC", "DeF"}, at(0, 0), 'X', "AXC/DeF/", at(1, 1)},
		{[]string{"AbC", "DEF"}, at(0, 1), 'X', "AXC/DEF/", at(0, 1)},
		{[]string{"AbC", "DEF"}, at(1, 0), 'X', "AXC/DEF/", at(1, 0)},
		{[]string{"AbC", "DEF"}, pending(1, 2), 'X', "AXC/DEF/", at(1, 2)},
		{[]string{"ABC", "DEF"}, at(0, 1), 'x', "ABC/DEF/", at(0, 1)},
		{[]string{"ABC", "DEF"}, pending(1, 2), 'x', "ABC/DEF/", pending(1, 2)},
		{[]string{"ABC", "DEF"}, pending(0, 2), 'X', "ABC/DEF/", pending(0, 2)},
	} {
		for _, wrap := range wraps { // which does not count
			s := board(t, c.from, c.rows...)
			s.Put(glyph(c.put), wrap, true)
			is(t, "Put with guard", s, c.want, c.next)
		}
	}
}

// P9.3: whichever cells are guarded, from everywhere, with each way of wrapping, a cell that is guarded itself among those that are put; twice.
func TestPutOfAnyCells(t *testing.T) {
	for _, z := range small {
		for number := range 1 << (z.Rows * z.Cols) {
			for i, cursor := range cursors(z) {
				for _, c := range []api.Cell{dot, lock, {}} {
					wrap := wraps[(number+i)%len(wraps)]
					does(t, made(t, z, cursor, bits(number), 0), putting(c, wrap, true), putting(dot, wrap, true))
				}
			}
		}
		for _, cursor := range cursors(z) {
			for _, wrap := range wraps {
				for _, c := range []api.Cell{dot, lock, {}} {
					does(t, made(t, z, cursor, bits(0b010110), 0), putting(c, wrap, false), putting(c, wrap, false))
				}
			}
		}
	}
}

// P9.5: a glyph that is put without guard stands ahead of the cursor, or under it. (In the only row, Auto behind the last column takes it out with its line.)
func TestPutStandsAheadOfTheCursor(t *testing.T) {
	for _, z := range append([]api.Size{size(24, 80), size(255, 255)}, small...) {
		for _, wrap := range wraps {
			for _, from := range []walk.Place{at(0, 0), at(z.Rows/2, z.Cols/2), at(0, z.Cols-1), at(z.Rows-1, z.Cols-1), pending(0, z.Cols-1), pending(z.Rows-1, z.Cols-1)} {
				col := from.Col
				if from.Pending {
					col = 0
				}
				if z.Rows == 1 && wrap == walk.Auto && col == z.Cols-1 {
					continue
				}
				s := made(t, z, from, none)
				s.Put(dot, wrap, false)
				p, _ := s.Cursor()
				under, _ := s.At(p)
				n := p.Row*z.Cols + p.Col - 1
				ahead, _ := s.At(pos(n/z.Cols, n%z.Cols))
				if under != dot && ahead != dot {
					t.Errorf("Put of %v from %v, %d: the cursor at %v, on %v, behind %v", z, from, wrap, p, under, ahead)
				}
			}
		}
	}
}

// P9.3: two places in order, the same one, ones beyond the edges, and ones the wrong way round.
func TestWipe(t *testing.T) {
	for _, c := range []struct {
		from, to    api.Pos
		free, guard string
	}{
		{pos(0, 0), pos(1, 2), ".../.../", ".B./.../"}, {pos(0, 1), pos(0, 2), "a../def/", "aB./def/"}, {pos(0, 2), pos(1, 0), "aB./.ef/", "aB./.ef/"},
		{pos(1, 1), pos(1, 1), "aBc/d.f/", "aBc/d.f/"}, {pos(0, 1), pos(0, 1), "a.c/def/", "aBc/def/"},
		{pos(-1, -1), pos(0, 9), ".../def/", ".B./def/"}, {pos(-9, 2), pos(9, -9), "aB./.ef/", "aB./.ef/"}, {pos(1, 1), pos(9, 9), "aBc/d../", "aBc/d../"},
		{pos(math.MinInt, math.MinInt), pos(math.MaxInt, math.MaxInt), ".../.../", ".B./.../"},
		{pos(math.MaxInt, math.MaxInt), pos(math.MaxInt, math.MaxInt), "aBc/de./", "aBc/de./"},
		{pos(9, 0), pos(1, 0), "aBc/.ef/", "aBc/.ef/"}, {pos(1, 5), pos(1, 2), "aBc/de./", "aBc/de./"}, // in order, as soon as they are the nearest ones
		{pos(0, 2), pos(0, 1), "aBc/def/", "aBc/def/"}, {pos(1, 0), pos(0, 2), "aBc/def/", "aBc/def/"}, {pos(1, 2), pos(0, 0), "aBc/def/", "aBc/def/"},
		{pos(math.MaxInt, 0), pos(math.MinInt, 2), "aBc/def/", "aBc/def/"}, {pos(9, 9), pos(9, 0), "aBc/def/", "aBc/def/"},
	} {
		for _, cursor := range []walk.Place{at(0, 0), at(1, 1), pending(0, 2), pending(1, 2)} {
			s, g := board(t, cursor, "aBc", "def"), board(t, cursor, "aBc", "def")
			s.Wipe(c.from, c.to, glyph('.'), false)
			is(t, "Wipe", s, c.free, cursor)
			g.Wipe(c.from, c.to, glyph('.'), true)
			is(t, "Wipe with guard", g, c.guard, cursor)
		}
	}
}

// P9.3: from everywhere to everywhere, those that are not there too.
func TestWipeOfAnyPlaces(t *testing.T) {
	for i, z := range small {
		for _, from := range around(z) {
			for _, to := range around(z) {
				cursor := cursors(z)[i%len(cursors(z))]
				does(t, made(t, z, cursor, bits(0b011010), 0), wiping(from, to, dot, true), wiping(from, to, lock, false))
			}
		}
	}
}

// P9.3: each part, from everywhere, whichever cells are guarded; and numbers that are none.
func TestPart(t *testing.T) {
	for _, c := range []struct {
		part int
		want string
	}{
		{wipe.All, ".B./..F/.../"}, {wipe.ToEnd, "aBc/d.F/.../"}, {wipe.ToStart, ".B./..F/ghi/"},
		{wipe.Line, "aBc/..F/ghi/"}, {wipe.LineEnd, "aBc/d.F/ghi/"}, {wipe.LineStart, "aBc/..F/ghi/"},
		{0, "aBc/deF/ghi/"}, {7, "aBc/deF/ghi/"}, {-1, "aBc/deF/ghi/"}, {math.MaxInt, "aBc/deF/ghi/"}, {1<<32 + 1, "aBc/deF/ghi/"},
	} {
		s := board(t, at(1, 1), "aBc", "deF", "ghi")
		s.Part(c.part, glyph('.'), true)
		is(t, "Part", s, c.want, at(1, 1))
	}
	for _, z := range small {
		for _, cursor := range cursors(z) {
			for _, part := range append(append([]int{}, parts...), noParts...) {
				for _, number := range []int{0, 0b1, 0b101010, 0b010011, 0b111111} {
					for _, c := range []api.Cell{dot, lock, {}} {
						does(t, made(t, z, cursor, bits(number), 0), parting(part, c, true))
						does(t, made(t, z, cursor, bits(number), 0), parting(part, c, false))
					}
				}
			}
		}
	}
}

// P9.3: lines inserted and deleted at the cursor's row; with guard not, if a cell from there on is guarded.
func TestLines(t *testing.T) {
	for _, c := range []struct {
		from        walk.Place
		n           int
		free, guard string
	}{
		{at(0, 1), 1, ".../aBc/def/", "aBc/def/ghi/"}, {at(0, 1), -1, "def/ghi/.../", "aBc/def/ghi/"}, {at(0, 1), 0, "aBc/def/ghi/", "aBc/def/ghi/"},
		{at(1, 1), 1, "aBc/.../def/", "aBc/.../def/"}, {at(1, 1), -1, "aBc/ghi/.../", "aBc/ghi/.../"}, {pending(1, 2), 2, "aBc/.../.../", "aBc/.../.../"},
		{at(2, 0), 1, "aBc/def/.../", "aBc/def/.../"}, {pending(2, 2), -1, "aBc/def/.../", "aBc/def/.../"}, {at(1, 0), 3, "aBc/.../.../", "aBc/.../.../"},
		{at(1, 2), math.MaxInt, "aBc/.../.../", "aBc/.../.../"}, {pending(1, 2), math.MinInt, "aBc/.../.../", "aBc/.../.../"},
	} {
		s, g := board(t, c.from, "aBc", "def", "ghi"), board(t, c.from, "aBc", "def", "ghi")
		s.Lines(c.n, glyph('.'), false)
		is(t, "Lines", s, c.free, c.from)
		g.Lines(c.n, glyph('.'), true)
		is(t, "Lines with guard", g, c.guard, c.from)
	}
	shifts(t, func(z api.Size) int { return z.Rows }, lining)
}

// P9.3: cells inserted and deleted where the cursor is; with guard only up to the next one that is guarded.
func TestChars(t *testing.T) {
	for _, c := range []struct {
		from        walk.Place
		n           int
		free, guard string
	}{
		{at(0, 1), 1, "a.bcDe", "a.bDef"}, {at(0, 1), -1, "acDef.", "ac.Def"}, {at(0, 1), 0, "abcDef", "abcDef"},
		{at(0, 3), 1, "abc.De", "abcDef"}, {at(0, 3), -1, "abcef.", "abcDef"}, {at(0, 4), 1, "abcD.e", "abcD.e"},
		{at(0, 5), 1, "abcDe.", "abcDe."}, {pending(0, 5), 1, "abcDe.", "abcDe."}, {pending(0, 5), -1, "abcDe.", "abcDe."},
		{at(0, 1), 9, "a.....", "a..Def"}, {at(0, 0), math.MaxInt, "......", "...Def"}, {at(0, 0), math.MinInt, "......", "...Def"},
	} {
		s, g := board(t, c.from, "abcDef", "ghijkl"), board(t, c.from, "abcDef", "ghijkl")
		s.Chars(c.n, glyph('.'), false)
		is(t, "Chars", s, c.free+"/ghijkl/", c.from)
		g.Chars(c.n, glyph('.'), true)
		is(t, "Chars with guard", g, c.guard+"/ghijkl/", c.from)
	}
	shifts(t, func(z api.Size) int { return z.Cols }, charring)
}

// shifts tries a call that shifts as many things as count says, of any cells that are guarded, from everywhere, by each number.
func shifts(t *testing.T, count func(z api.Size) int, shift func(n int, c api.Cell, guard bool) act) {
	t.Helper()
	for _, z := range small {
		for number := range 1 << (z.Rows * z.Cols) {
			for i, cursor := range cursors(z) {
				numbers := steps(count(z))
				for k, n := range append([]int{0, 1, -1, 2, -2}, numbers[(number+i)%len(numbers)]) {
					c := []api.Cell{dot, lock, {}}[(i+k)%3]
					does(t, made(t, z, cursor, bits(number), 0), shift(n, c, true))
					does(t, made(t, z, cursor, bits(number), 0), shift(n, c, false))
				}
			}
		}
		for _, cursor := range cursors(z) {
			for _, n := range steps(count(z)) {
				does(t, made(t, z, cursor, none, 0), shift(n, dot, true), shift(n, lock, false))
			}
		}
	}
}
