package shift_test

import (
	"math"
	"slices"
	"testing"

	"vizard/api"
	"vizard/grid"
	"vizard/shift"
)

// P6.1: some guarded cells ahead of the row, some in it, some behind it.
func TestGuarded(t *testing.T) {
	for _, c := range []struct {
		rows []string
		want []int
	}{
		{[]string{"abc", "def", "ghi"}, []int{0, 0, 0}},
		{[]string{"Abc", "def", "ghi"}, []int{1, 0, 0}},
		{[]string{"abc", "dEf", "ghi"}, []int{1, 1, 0}},
		{[]string{"abc", "def", "ghI"}, []int{1, 1, 1}},
		{[]string{"ABC", "dEf", "GhI"}, []int{6, 3, 2}},
		{[]string{"ABC", "DEF", "GHI"}, []int{9, 6, 3}},
		{[]string{"a"}, []int{0}}, {[]string{"A"}, []int{1}},
	} {
		g := board(t, c.rows...)
		for row, want := range c.want {
			if n, e := shift.Guarded(g, row); n != want || e != api.OK {
				t.Errorf("Guarded(%v, %d): %d, %d, not %d", c.rows, row, n, int(e), want)
			}
		}
	}
}

// P6.1: whichever cells are guarded.
func TestGuardedOfAnyCells(t *testing.T) {
	for number := range 1 << 9 {
		g := made(t, 3, 3, bits(number, 3))
		was := g.Copy()
		for row := range 3 {
			n, e := shift.Guarded(g, row)
			if want := counted(was.Rows(), row); n != want || e != api.OK {
				t.Errorf("Guarded(%b, %d): %d, %d, not %d", number, row, n, int(e), want)
			}
			refused(t, g, was, e, api.OK, "Guarded turns nothing")
		}
	}
}

// P6.1: of the greatest grid, each row, with all cells guarded, with none, and with one in each row.
func TestGuardedOfTheGreatest(t *testing.T) {
	slant := func(p api.Pos) bool { return p.Row == p.Col }
	all, some, free := made(t, 255, 255, every), made(t, 255, 255, slant), made(t, 255, 255, none)
	for row := range 255 {
		n, e := shift.Guarded(all, row)
		m, f := shift.Guarded(some, row)
		k, h := shift.Guarded(free, row)
		if n != (255-row)*255 || m != 255-row || k != 0 || e != api.OK || f != api.OK || h != api.OK {
			t.Errorf("Guarded from %d: %d, %d, %d; %d, %d, %d", row, n, m, k, int(e), int(f), int(h))
		}
	}
}

// P6.1
func TestGuardedOfRowsThatAreNotThere(t *testing.T) {
	for _, g := range []*grid.Grid[api.Cell]{board(t, "A"), board(t, "abC", "DEf"), made(t, 255, 1, every)} {
		was := g.Copy()
		for _, row := range beyond(g.Size().Rows) {
			n, e := shift.Guarded(g, row)
			if row < 0 || row >= g.Size().Rows {
				refused(t, g, was, e, api.ErrRange, "Guarded", row)
				if n != 0 {
					t.Errorf("Guarded(%d): %d beside an error", row, n)
				}
			}
		}
	}
}

// P6.1: each cell of a row; -1 of those that are guarded.
func TestField(t *testing.T) {
	for _, c := range []struct {
		row      string
		from, to []int
	}{
		{"abCde", []int{0, 0, -1, 3, 3}, []int{1, 1, -1, 4, 4}},
		{"abcde", []int{0, 0, 0, 0, 0}, []int{4, 4, 4, 4, 4}},
		{"AbcdE", []int{-1, 1, 1, 1, -1}, []int{-1, 3, 3, 3, -1}},
		{"aBcDe", []int{0, -1, 2, -1, 4}, []int{0, -1, 2, -1, 4}},
		{"ABcDE", []int{-1, -1, 2, -1, -1}, []int{-1, -1, 2, -1, -1}},
		{"ABCDE", []int{-1, -1, -1, -1, -1}, []int{-1, -1, -1, -1, -1}},
		{"a", []int{0}, []int{0}}, {"A", []int{-1}, []int{-1}},
	} {
		g := board(t, c.row)
		for col := range c.row {
			from, to, e := shift.Field(g, pos(0, col))
			if c.from[col] < 0 {
				if from != 0 || to != 0 || e != api.ErrNone {
					t.Errorf("Field(%s, %d): %d, %d, %d", c.row, col, from, to, int(e))
				}
			} else if from != c.from[col] || to != c.to[col] || e != api.OK {
				t.Errorf("Field(%s, %d): %d, %d, %d, not %d, %d", c.row, col, from, to, int(e), c.from[col], c.to[col])
			}
		}
	}
}

// P6.1: whichever cells are guarded, and whatever the rows ahead and behind have.
func TestFieldIsTheLongestRun(t *testing.T) {
	for number := range 1 << 12 {
		g := made(t, 3, 4, bits(number, 4))
		was := g.Copy()
		for p := range was.All() {
			from, to, e := shift.Field(g, p)
			want := api.OK
			first, last, ok := longest(was.Rows()[p.Row], p.Col)
			if !ok {
				want = api.ErrNone
			}
			if from != first || to != last || e != want || !g.Same(was) {
				t.Errorf("Field(%b, %v): %d, %d, %d, not %d, %d, %d", number, p, from, to, int(e), first, last, int(want))
			}
		}
	}
}

// P6.1: of the longest row; a run does not go on in the next row.
func TestFieldOfTheLongestRow(t *testing.T) {
	g := made(t, 3, 255, func(p api.Pos) bool { return p.Row == 1 && (p.Col == 100 || p.Col == 200) })
	for _, c := range []struct{ row, col, from, to int }{
		{0, 0, 0, 254}, {0, 254, 0, 254}, {1, 0, 0, 99}, {1, 99, 0, 99}, {1, 101, 101, 199}, {1, 199, 101, 199},
		{1, 201, 201, 254}, {1, 254, 201, 254}, {2, 0, 0, 254}, {2, 100, 0, 254},
	} {
		if from, to, e := shift.Field(g, pos(c.row, c.col)); from != c.from || to != c.to || e != api.OK {
			t.Errorf("Field(%d, %d): %d, %d, %d", c.row, c.col, from, to, int(e))
		}
	}
}

// P6.1: ErrRange, whether cells are guarded or not.
func TestFieldOfPlacesThatAreNotThere(t *testing.T) {
	for _, g := range []*grid.Grid[api.Cell]{board(t, "abc", "def"), board(t, "ABC", "DEF")} {
		was := g.Copy()
		for _, p := range absent(2, 3) {
			from, to, e := shift.Field(g, p)
			refused(t, g, was, e, api.ErrRange, "Field", p)
			if from != 0 || to != 0 {
				t.Errorf("Field(%v): %d, %d beside an error", p, from, to)
			}
		}
	}
}

// P6.2: guarded cells go with the others.
func TestUp(t *testing.T) {
	for _, c := range []struct {
		n    int
		want string
	}{
		{0, "ab/cD/ef/"}, {1, "cD/ef/../"}, {2, "ef/../../"}, {3, "../../../"}, {4, "../../../"}, {math.MaxInt, "../../../"},
		{-1, "../ab/cD/"}, {-2, "../../ab/"}, {-3, "../../../"}, {-4, "../../../"}, {math.MinInt, "../../../"},
	} {
		g := board(t, "ab", "cD", "ef")
		if e := shift.Up(g, c.n, dot); e != api.OK || text(g) != c.want {
			t.Errorf("Up(%d): %d, %s, not %s", c.n, int(e), text(g), c.want)
		}
	}
}

// P6.2: of a few sizes, by all numbers, whole cells, and with a guarded cell that fills.
func TestUpByAnyNumber(t *testing.T) {
	for _, rows := range []int{1, 2, 4, 24, 255} {
		for _, fill := range []api.Cell{dot, lock} {
			was := made(t, rows, 3, func(p api.Pos) bool { return (p.Row+p.Col)%3 == 0 })
			for _, n := range append(steps(min(rows, 24)), rows-1, 1-rows) {
				g, want := was.Copy(), was.Rows()
				// To the other side of 0 than inserted lines go; no number is turned round for it.
				for row := range want {
					want[row] = []api.Cell{fill, fill, fill}
					for x := range rows {
						if x-row == n {
							want[row] = was.Rows()[x]
						}
					}
				}
				holds(t, g, shift.Up(g, n, fill), want, "Up", rows, n)
			}
		}
	}
}

// P6.2
func TestLines(t *testing.T) {
	for _, c := range []struct {
		row, n int
		want   string
	}{
		{0, 0, "ab/cd/ef/gh/"}, {0, 1, "../ab/cd/ef/"}, {0, 3, "../../../ab/"}, {0, 4, "../../../../"}, {0, math.MaxInt, "../../../../"},
		{0, -1, "cd/ef/gh/../"}, {0, -3, "gh/../../../"}, {0, -4, "../../../../"}, {0, math.MinInt, "../../../../"},
		{1, 0, "ab/cd/ef/gh/"}, {1, 1, "ab/../cd/ef/"}, {1, 2, "ab/../../cd/"}, {1, 3, "ab/../../../"}, {1, 9, "ab/../../../"},
		{1, -1, "ab/ef/gh/../"}, {1, -2, "ab/gh/../../"}, {1, -3, "ab/../../../"}, {1, math.MinInt, "ab/../../../"},
		{3, 0, "ab/cd/ef/gh/"}, {3, 1, "ab/cd/ef/../"}, {3, -1, "ab/cd/ef/../"}, {3, math.MaxInt, "ab/cd/ef/../"}, {3, math.MinInt, "ab/cd/ef/../"},
	} {
		for _, guard := range []bool{false, true} {
			g := board(t, "ab", "cd", "ef", "gh")
			if e := shift.Lines(g, c.row, c.n, dot, guard); e != api.OK || text(g) != c.want {
				t.Errorf("Lines(%d, %d, %v): %d, %s, not %s", c.row, c.n, guard, int(e), text(g), c.want)
			}
		}
	}
}

// P6.2: a guarded cell ahead of the row does not count; one in it, or behind it, does, in whatever column.
func TestLinesWithGuard(t *testing.T) {
	for _, c := range []struct {
		rows       []string
		row, n     int
		free, with string
	}{
		{[]string{"Ab", "cd", "ef"}, 1, 1, "Ab/../cd/", "Ab/../cd/"},
		{[]string{"aB", "cd", "ef"}, 1, -1, "aB/ef/../", "aB/ef/../"},
		{[]string{"AB", "CD", "ef"}, 2, 5, "AB/CD/../", "AB/CD/../"},
		{[]string{"ab", "Cd", "ef"}, 1, 1, "ab/../Cd/", "ab/Cd/ef/"},
		{[]string{"ab", "cD", "ef"}, 1, -1, "ab/ef/../", "ab/cD/ef/"},
		{[]string{"ab", "cd", "Ef"}, 1, 1, "ab/../cd/", "ab/cd/Ef/"},
		{[]string{"ab", "cd", "eF"}, 1, -1, "ab/eF/../", "ab/cd/eF/"},
		{[]string{"ab", "cd", "eF"}, 0, -1, "cd/eF/../", "ab/cd/eF/"},
		{[]string{"Ab", "cd", "ef"}, 0, 1, "../Ab/cd/", "Ab/cd/ef/"},
		{[]string{"ab", "cd", "eF"}, 2, 1, "ab/cd/../", "ab/cd/eF/"},
		{[]string{"ab", "cd", "eF"}, 2, math.MinInt, "ab/cd/../", "ab/cd/eF/"},
		{[]string{"AB", "CD", "EF"}, 0, 0, "AB/CD/EF/", "AB/CD/EF/"},
	} {
		for _, guard := range []bool{false, true} {
			g, want := board(t, c.rows...), c.free
			if guard {
				want = c.with
			}
			if e := shift.Lines(g, c.row, c.n, dot, guard); e != api.OK || text(g) != want {
				t.Errorf("Lines(%v, %d, %d, %v): %d, %s, not %s", c.rows, c.row, c.n, guard, int(e), text(g), want)
			}
		}
	}
}

// P6.2: whichever cells are guarded, from each row, by all numbers.
func TestLinesOfAnyCells(t *testing.T) {
	for number := range 1 << 6 {
		was := made(t, 3, 2, bits(number, 2))
		for row := range 3 {
			for _, n := range steps(3) {
				for _, guard := range []bool{false, true} {
					for _, fill := range []api.Cell{dot, lock} {
						g := was.Copy()
						e := shift.Lines(g, row, n, fill, guard)
						holds(t, g, e, withLines(was.Rows(), row, n, fill, guard), "Lines", number, row, n, guard)
					}
				}
			}
		}
	}
}

// P6.2: of as many rows as may be.
func TestLinesOfTheGreatest(t *testing.T) {
	was := made(t, 255, 2, func(p api.Pos) bool { return p.Row < 100 })
	for _, row := range []int{0, 1, 99, 100, 127, 253, 254} {
		for _, n := range []int{1, 100, 154, 155, 254, 255, 256, math.MaxInt, -1, -100, -154, -155, -254, -255, -256, math.MinInt} {
			for _, guard := range []bool{false, true} {
				g := was.Copy()
				e := shift.Lines(g, row, n, dot, guard)
				holds(t, g, e, withLines(was.Rows(), row, n, dot, guard), "Lines", row, n, guard)
			}
		}
	}
}

// P6.2: ErrRange comes ahead of what is guarded, and of a number that moves nothing.
func TestLinesOfRowsThatAreNotThere(t *testing.T) {
	for _, g := range []*grid.Grid[api.Cell]{board(t, "abc", "def"), board(t, "ABC", "DEF"), board(t, "Abc", "def")} {
		was := g.Copy()
		for _, row := range beyond(2) {
			for _, n := range steps(2) {
				refused(t, g, was, shift.Lines(g, row, n, dot, false), api.ErrRange, "Lines", row, n)
				refused(t, g, was, shift.Lines(g, row, n, dot, true), api.ErrRange, "Lines with guard", row, n)
			}
		}
	}
}

// P6.3: the chapter's example, and others without guard.
func TestChars(t *testing.T) {
	for _, c := range []struct {
		row    string
		col, n int
		want   string
	}{
		{"abc", 1, 1, "a.b/"}, {"abc", 1, -1, "ac./"},
		{"abcd", 0, 0, "abcd/"}, {"abcd", 0, 1, ".abc/"}, {"abcd", 0, 3, "...a/"}, {"abcd", 0, 4, "..../"}, {"abcd", 0, math.MaxInt, "..../"},
		{"abcd", 0, -1, "bcd./"}, {"abcd", 0, -3, "d.../"}, {"abcd", 0, -4, "..../"}, {"abcd", 0, math.MinInt, "..../"},
		{"abcd", 2, 0, "abcd/"}, {"abcd", 2, 1, "ab.c/"}, {"abcd", 2, 2, "ab../"}, {"abcd", 2, 9, "ab../"}, {"abcd", 2, -1, "abd./"}, {"abcd", 2, -9, "ab../"},
		{"abcd", 3, 0, "abcd/"}, {"abcd", 3, 1, "abc./"}, {"abcd", 3, -1, "abc./"}, {"abcd", 3, math.MaxInt, "abc./"}, {"abcd", 3, math.MinInt, "abc./"},
		{"aBcD", 1, 1, "a.Bc/"}, {"aBcD", 1, -1, "acD./"}, {"aBcD", 1, 9, "a.../"}, {"ABCD", 0, -2, "CD../"},
	} {
		g := board(t, c.row)
		if e := shift.Chars(g, pos(0, c.col), c.n, dot, false); e != api.OK || text(g) != c.want {
			t.Errorf("Chars(%s, %d, %d): %d, %s, not %s", c.row, c.col, c.n, int(e), text(g), c.want)
		}
	}
}

// P6.3: a guarded cell ahead of the place, at it, behind it, and none at all.
func TestCharsWithGuard(t *testing.T) {
	for _, c := range []struct {
		row    string
		col, n int
		want   string
	}{
		{"abcd", 1, 1, "a.bc/"}, {"abcd", 1, -1, "acd./"},
		{"Abcd", 1, 1, "A.bc/"}, {"Abcd", 1, -1, "Acd./"}, {"aBcd", 2, 9, "aB../"}, {"aBcd", 3, math.MinInt, "aBc./"},
		{"aBcd", 1, 1, "aBcd/"}, {"aBcd", 1, -1, "aBcd/"}, {"aBcd", 1, math.MaxInt, "aBcd/"}, {"Abcd", 0, 1, "Abcd/"}, {"abcD", 3, -1, "abcD/"},
		{"abcD", 0, 1, ".abD/"}, {"abcD", 0, -1, "bc.D/"}, {"abcD", 1, 1, "a.bD/"}, {"abcD", 1, -1, "ac.D/"}, {"abcD", 2, 1, "ab.D/"},
		{"abcD", 0, 2, "..aD/"}, {"abcD", 0, 3, "...D/"}, {"abcD", 0, 4, "...D/"}, {"abcD", 0, math.MaxInt, "...D/"}, {"abcD", 0, math.MinInt, "...D/"},
		{"AbcdEfg", 2, 1, "Ab.cEfg/"}, {"AbcdEfg", 2, -1, "Abd.Efg/"}, {"abCdEfg", 0, 1, ".aCdEfg/"}, {"abCdEfg", 3, -1, "abC.Efg/"},
	} {
		g := board(t, c.row)
		if e := shift.Chars(g, pos(0, c.col), c.n, dot, true); e != api.OK || text(g) != c.want {
			t.Errorf("Chars(%s, %d, %d): %d, %s, not %s", c.row, c.col, c.n, int(e), text(g), c.want)
		}
	}
}

// P6.3: whichever cells are guarded, from each column of the middle row, by all numbers; the rows ahead and behind stay.
func TestCharsOfAnyCells(t *testing.T) {
	for number := range 1 << 5 {
		was := made(t, 3, 5, func(p api.Pos) bool { return p.Row == 2 || p.Row == 1 && number>>p.Col&1 == 1 })
		for p := range was.All() {
			for _, n := range steps(5) {
				for _, guard := range []bool{false, true} {
					for _, fill := range []api.Cell{dot, lock} {
						g := was.Copy()
						e := shift.Chars(g, p, n, fill, guard)
						holds(t, g, e, withChars(was.Rows(), p, n, fill, guard), "Chars", number, p, n, guard)
					}
				}
			}
		}
	}
}

// P6.3: of as many columns as may be.
func TestCharsOfTheGreatest(t *testing.T) {
	was := made(t, 2, 255, func(p api.Pos) bool { return p.Row == 1 && p.Col == 200 })
	for row := range 2 {
		for _, col := range []int{0, 1, 127, 199, 200, 201, 253, 254} {
			for _, n := range []int{1, 72, 73, 74, 200, 254, 255, 256, math.MaxInt, -1, -72, -73, -74, -200, -254, -255, -256, math.MinInt} {
				for _, guard := range []bool{false, true} {
					g := was.Copy()
					e := shift.Chars(g, pos(row, col), n, dot, guard)
					holds(t, g, e, withChars(was.Rows(), pos(row, col), n, dot, guard), "Chars", row, col, n, guard)
				}
			}
		}
	}
}

// P6.3: ErrRange comes ahead of what is guarded, and of a number that moves nothing.
func TestCharsOfPlacesThatAreNotThere(t *testing.T) {
	for _, g := range []*grid.Grid[api.Cell]{board(t, "abc", "def"), board(t, "ABC", "DEF")} {
		was := g.Copy()
		for _, p := range absent(2, 3) {
			for _, n := range []int{0, 1, -1, 3, -3, math.MaxInt, math.MinInt} {
				refused(t, g, was, shift.Chars(g, p, n, dot, false), api.ErrRange, "Chars", p, n)
				refused(t, g, was, shift.Chars(g, p, n, dot, true), api.ErrRange, "Chars with guard", p, n)
			}
		}
	}
}

// P6.4: with guard no cell that has Guard is turned.
func TestGuardedCellsStay(t *testing.T) {
	for number := range 1 << 8 {
		was := made(t, 2, 4, bits(number, 4))
		for p := range was.All() {
			for _, n := range steps(4) {
				for _, k := range calls {
					g := was.Copy()
					if e := k.do(g, p, n, dot, true); e != api.OK {
						t.Errorf("%s at %v by %d: %d", k.name, p, n, int(e))
					}
					for q, c := range was.All() {
						if now, _ := g.At(q); c.Guard && now != c {
							t.Errorf("%s at %v by %d, guarded %b: %v turned", k.name, p, n, number, q)
						}
					}
				}
			}
		}
	}
}

// P6.4: cells ahead of the place are as they were, with guard and without; of Chars those of all other rows too.
func TestCellsAheadStay(t *testing.T) {
	ahead := map[string]func(q, p api.Pos) bool{
		"Lines": func(q, p api.Pos) bool { return q.Row < p.Row },
		"Chars": func(q, p api.Pos) bool { return q.Row != p.Row || q.Col < p.Col },
	}
	for number := range 1 << 6 {
		was := made(t, 3, 4, bits(number<<3, 4))
		for p := range was.All() {
			for _, n := range steps(4) {
				for _, k := range calls {
					for _, guard := range []bool{false, true} {
						g := was.Copy()
						k.do(g, p, n, dot, guard)
						for q, c := range was.All() {
							if now, _ := g.At(q); ahead[k.name](q, p) && now != c {
								t.Errorf("%s at %v by %d: %v turned", k.name, p, n, q)
							}
						}
					}
				}
			}
		}
	}
}

// P6.4: n lines inserted, and n deleted there, leaves all that was not pushed out.
func TestLinesInsertedAndDeleted(t *testing.T) {
	was := made(t, 5, 2, func(p api.Pos) bool { return p.Row == 0 })
	for row := range 5 {
		for _, n := range []int{0, 1, 2, 3, 4, 5, 6, 255, 256, 1 << 32, math.MaxInt} {
			for _, guard := range []bool{false, true} {
				g, want := was.Copy(), was.Rows()
				for r := row; r < 5 && (row > 0 || !guard); r++ {
					if n >= 5-r {
						want[r] = []api.Cell{dot, dot}
					}
				}
				e := shift.Lines(g, row, n, api.Cell{}, guard)
				f := shift.Lines(g, row, -n, dot, guard)
				holds(t, g, max(e, f), want, "inserted and deleted", row, n, guard)
			}
		}
	}
}

// P6.4: n cells inserted, and n deleted there, leaves all that was not pushed out.
func TestCharsInsertedAndDeleted(t *testing.T) {
	was := made(t, 2, 7, func(p api.Pos) bool { return p.Col == 0 || p.Col == 5 })
	for p, c := range was.All() {
		for _, n := range []int{0, 1, 2, 3, 4, 5, 6, 7, 8, 255, 256, 1 << 32, math.MaxInt} {
			for _, guard := range []bool{false, true} {
				g, want := was.Copy(), was.Rows()
				end := 7
				if guard && p.Col < 5 {
					end = 5
				}
				for col := p.Col; col < end && !(guard && c.Guard); col++ {
					if n >= end-col {
						want[p.Row][col] = dot
					}
				}
				e := shift.Chars(g, p, n, api.Cell{}, guard)
				f := shift.Chars(g, p, -n, dot, guard)
				holds(t, g, max(e, f), want, "inserted and deleted", p, n, guard)
			}
		}
	}
}

// R3: the same call of the same cells leaves the same, whatever was asked of them or done to another grid in between.
func TestCallsHangOnTheirGridAlone(t *testing.T) {
	first, second, other := made(t, 6, 6, none), made(t, 6, 6, none), board(t, "XY", "Zz")
	for i, n := range []int{1, -1, 2, 0, -2, 1} {
		for _, k := range calls {
			p := pos(i, 5-i)
			e := k.do(first, p, n, dot, i%2 == 0)
			shift.Up(other, n, lock)
			shift.Guarded(second, i)
			shift.Field(second, p)
			holds(t, second, k.do(second, p, n, dot, i%2 == 0), first.Rows(), k.name, n)
			if e != api.OK {
				t.Errorf("%s(%v, %d): %d", k.name, p, n, int(e))
			}
		}
	}
}

// The sentence in brackets: of a nil grid all answer ErrNil. R1: ErrNil is named ahead of the other errors.
func TestNil(t *testing.T) {
	var g *grid.Grid[api.Cell]
	numbers := slices.Concat([]int{0, 1, -1, 254, 255}, far)
	for _, at := range numbers {
		if n, e := shift.Guarded(g, at); n != 0 || e != api.ErrNil {
			t.Errorf("Guarded(%d): %d, %d", at, n, int(e))
		}
		if e := shift.Up(g, at, dot); e != api.ErrNil {
			t.Errorf("Up(%d): %d", at, int(e))
		}
		for _, p := range []api.Pos{pos(at, 0), pos(0, at), pos(at, at)} {
			if from, to, e := shift.Field(g, p); from != 0 || to != 0 || e != api.ErrNil {
				t.Errorf("Field(%v): %d, %d, %d", p, from, to, int(e))
			}
			for _, n := range numbers {
				for _, k := range calls {
					e, f := k.do(g, p, n, dot, false), k.do(g, p, n, lock, true)
					if e != api.ErrNil || f != api.ErrNil {
						t.Errorf("%s(%v, %d): %d, with guard %d", k.name, p, n, int(e), int(f))
					}
				}
			}
		}
	}
}
