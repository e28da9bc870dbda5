package wipe_test

import (
	"math"
	"slices"
	"testing"

	"vizard/api"
	"vizard/grid"
	"vizard/wipe"
)

// P7.1: parts count from 1 on.
func TestPartsAreNumbered(t *testing.T) {
	for i, part := range parts {
		if part != i+1 {
			t.Errorf("%s is %d", partNames[i], part)
		}
	}
}

// P7.1: each kind from the first place, one in the middle, and the last one.
func TestPart(t *testing.T) {
	for _, c := range []struct {
		p        api.Pos
		part     int
		from, to api.Pos
	}{
		{pos(0, 0), wipe.All, pos(0, 0), pos(2, 3)}, {pos(1, 2), wipe.All, pos(0, 0), pos(2, 3)}, {pos(2, 3), wipe.All, pos(0, 0), pos(2, 3)},
		{pos(0, 0), wipe.ToEnd, pos(0, 0), pos(2, 3)}, {pos(1, 2), wipe.ToEnd, pos(1, 2), pos(2, 3)}, {pos(2, 3), wipe.ToEnd, pos(2, 3), pos(2, 3)},
		{pos(0, 0), wipe.ToStart, pos(0, 0), pos(0, 0)}, {pos(1, 2), wipe.ToStart, pos(0, 0), pos(1, 2)}, {pos(2, 3), wipe.ToStart, pos(0, 0), pos(2, 3)},
		{pos(0, 0), wipe.Line, pos(0, 0), pos(0, 3)}, {pos(1, 2), wipe.Line, pos(1, 0), pos(1, 3)}, {pos(2, 3), wipe.Line, pos(2, 0), pos(2, 3)},
		{pos(0, 0), wipe.LineEnd, pos(0, 0), pos(0, 3)}, {pos(1, 2), wipe.LineEnd, pos(1, 2), pos(1, 3)}, {pos(2, 3), wipe.LineEnd, pos(2, 3), pos(2, 3)},
		{pos(0, 0), wipe.LineStart, pos(0, 0), pos(0, 0)}, {pos(1, 2), wipe.LineStart, pos(1, 0), pos(1, 2)}, {pos(2, 3), wipe.LineStart, pos(2, 0), pos(2, 3)},
	} {
		if from, to, e := wipe.Part(size(3, 4), c.p, c.part); from != c.from || to != c.to || e != api.OK {
			t.Errorf("Part(%v, %s): %v, %v, %d, not %v, %v", c.p, partNames[c.part-1], from, to, int(e), c.from, c.to)
		}
	}
}

// P7.1: of one place alone, all parts are that place.
func TestPartOfOnePlace(t *testing.T) {
	for _, part := range parts {
		if from, to, e := wipe.Part(size(1, 1), pos(0, 0), part); from != pos(0, 0) || to != pos(0, 0) || e != api.OK {
			t.Errorf("Part(%s): %v, %v, %d", partNames[part-1], from, to, int(e))
		}
	}
}

// P7.1: of any place of small sizes; of the corners, and of some place between them, of great ones.
func TestPartOfAnyPlace(t *testing.T) {
	check := func(s api.Size, p api.Pos) {
		for _, part := range parts {
			want := those(s, p, part)
			if from, to, e := wipe.Part(s, p, part); from != want[0] || to != want[len(want)-1] || e != api.OK {
				t.Errorf("Part(%v, %v, %s): %v, %v, %d", s, p, partNames[part-1], from, to, int(e))
			}
		}
	}
	for rows := 1; rows <= 5; rows++ {
		for cols := 1; cols <= 5; cols++ {
			for _, p := range places(size(rows, cols)) {
				check(size(rows, cols), p)
			}
		}
	}
	for _, s := range []api.Size{size(255, 255), size(1, 255), size(255, 1), size(24, 80)} {
		for _, row := range []int{0, s.Rows / 2, s.Rows - 1} {
			for _, col := range []int{0, s.Cols / 3, s.Cols - 1} {
				check(s, pos(row, col))
			}
		}
	}
}

// fails fails unless Part answers an error, and nothing beside it.
func fails(t *testing.T, s api.Size, p api.Pos, part int, want api.Errno) {
	t.Helper()
	if from, to, e := wipe.Part(s, p, part); from != pos(0, 0) || to != pos(0, 0) || e != want {
		t.Errorf("Part(%v, %v, %d): %v, %v, %d, not %d", s, p, part, from, to, int(e), int(want))
	}
}

// P7.1: ErrSize comes ahead of a place that is not there, and of a kind that is none.
func TestPartOfSizesThatMayNotBe(t *testing.T) {
	for _, count := range append([]int{0, -1, 256, 257, -255, 512}, far...) {
		for _, s := range []api.Size{size(count, 4), size(3, count), size(count, count), size(count, 255), size(255, count)} {
			for _, p := range []api.Pos{pos(0, 0), pos(1, 2), pos(-1, 0), pos(0, 999), pos(math.MaxInt, math.MinInt)} {
				for _, part := range append([]int{0, 7, -1, math.MaxInt, math.MinInt}, parts...) {
					fails(t, s, p, part, api.ErrSize)
				}
			}
		}
	}
}

// P7.1: ErrRange comes ahead of a kind that is none; a column that is not there is none, though the row has places behind it.
func TestPartOfPlacesThatAreNotThere(t *testing.T) {
	for _, s := range []api.Size{size(3, 4), size(1, 1), size(1, 255), size(255, 255)} {
		for _, p := range absent(s.Rows, s.Cols) {
			if p.Row >= 0 && p.Row < s.Rows && p.Col >= 0 && p.Col < s.Cols {
				continue
			}
			for _, part := range append([]int{0, 7, -1, math.MaxInt, math.MinInt}, parts...) {
				fails(t, s, p, part, api.ErrRange)
			}
		}
	}
}

// P7.1: those whose low bits are a part's are none either.
func TestPartOfKindsThatAreNone(t *testing.T) {
	kinds := append([]int{0, 7, 8, -1, -2, -6, 256 + 1, 1<<16 + 2, 1<<32 + 3}, far...)
	for _, part := range kinds {
		for _, s := range []api.Size{size(1, 1), size(3, 4), size(255, 255)} {
			for _, p := range []api.Pos{pos(0, 0), pos(s.Rows/2, s.Cols/2), pos(s.Rows-1, s.Cols-1)} {
				fails(t, s, p, part, api.ErrKind)
			}
		}
	}
}

// P7.2: the chapter's example, from one place to itself, within a row, over several rows, of all places; capitals are guarded.
func TestWipe(t *testing.T) {
	ab, guarded := []string{"ab", "cd"}, []string{"aBcd", "efGh", "ijkL"}
	for _, c := range []struct {
		rows       []string
		from, to   api.Pos
		free, with string
		n, m       int
	}{
		{ab, pos(0, 1), pos(1, 0), "a./.d/", "a./.d/", 2, 2},
		{ab, pos(0, 0), pos(0, 0), ".b/cd/", ".b/cd/", 1, 1}, {ab, pos(1, 1), pos(1, 1), "ab/c./", "ab/c./", 1, 1},
		{ab, pos(0, 0), pos(0, 1), "../cd/", "../cd/", 2, 2}, {ab, pos(1, 0), pos(1, 1), "ab/../", "ab/../", 2, 2},
		{ab, pos(0, 0), pos(1, 1), "../../", "../../", 4, 4},
		{[]string{"a"}, pos(0, 0), pos(0, 0), "./", "./", 1, 1}, {[]string{"A"}, pos(0, 0), pos(0, 0), "./", "A/", 1, 0},
		{guarded, pos(0, 1), pos(0, 1), "a.cd/efGh/ijkL/", "aBcd/efGh/ijkL/", 1, 0},
		{guarded, pos(0, 1), pos(0, 3), "a.../efGh/ijkL/", "aB../efGh/ijkL/", 3, 2},
		{guarded, pos(1, 1), pos(1, 3), "aBcd/e.../ijkL/", "aBcd/e.G./ijkL/", 3, 2},
		{guarded, pos(1, 0), pos(1, 2), "aBcd/...h/ijkL/", "aBcd/..Gh/ijkL/", 3, 2},
		{guarded, pos(0, 1), pos(1, 2), "a.../...h/ijkL/", "aB../..Gh/ijkL/", 6, 4},
		{guarded, pos(0, 2), pos(1, 1), "aB../..Gh/ijkL/", "aB../..Gh/ijkL/", 4, 4},
		{guarded, pos(0, 3), pos(2, 0), "aBc./..../.jkL/", "aBc./..G./.jkL/", 6, 5},
		{guarded, pos(1, 3), pos(2, 3), "aBcd/efG./..../", "aBcd/efG./...L/", 5, 4},
		{guarded, pos(0, 0), pos(2, 3), "..../..../..../", ".B../..G./...L/", 12, 9},
	} {
		g, h := board(t, c.rows...), board(t, c.rows...)
		n, e := wipe.Wipe(g, c.from, c.to, dot, false)
		m, f := wipe.Wipe(h, c.from, c.to, dot, true)
		if n != c.n || e != api.OK || text(g) != c.free {
			t.Errorf("Wipe(%v, %v, %v): %d, %d, %s, not %d, %s", c.rows, c.from, c.to, n, int(e), text(g), c.n, c.free)
		}
		if m != c.m || f != api.OK || text(h) != c.with {
			t.Errorf("Wipe(%v, %v, %v) with guard: %d, %d, %s, not %d, %s", c.rows, c.from, c.to, m, int(f), text(h), c.m, c.with)
		}
	}
}

// P7.2: what was as it should be ahead does not count; a cell that is another one in one thing alone does.
func TestWipeCountsOtherCells(t *testing.T) {
	c := api.Cell{Glyph: 'x', Attr: api.Bold, Mark: 3}
	others := []api.Cell{
		{Glyph: 'X', Attr: api.Bold, Mark: 3}, {Glyph: 'x', Attr: api.Bold | api.Dim, Mark: 3}, {Glyph: 'x', Mark: 3},
		{Glyph: 'x', Attr: api.Bold, Guard: true, Mark: 3}, {Glyph: 'x', Attr: api.Bold}, {Glyph: 'x', Attr: api.Bold, Mark: -3}, {},
	}
	for _, other := range others {
		for number := range 1 << 4 {
			g, _ := grid.New(size(2, 2), c)
			want := 0
			for i, p := range places(size(2, 2)) {
				if number>>i&1 == 1 {
					g.Set(p, other)
					want++
				}
			}
			n, e := wipe.Wipe(g, pos(0, 0), pos(1, 1), c, false)
			if n != want || e != api.OK || slices.ContainsFunc(slices.Concat(g.Rows()...), func(x api.Cell) bool { return x != c }) {
				t.Errorf("Wipe of %b %v: %d, %d, not %d; %v", number, other, n, int(e), want, g.Rows())
			}
		}
	}
}

// P7.2: where the cell itself is guarded, what it is put to is guarded then; with guard it is put to no guarded one.
func TestWipeWithAGuardedCell(t *testing.T) {
	g := board(t, "aB", "cd")
	n, e := wipe.Wipe(g, pos(0, 0), pos(1, 0), lock, true)
	if n != 2 || e != api.OK || text(g) != "#B/#d/" || guards(g) != "##/#-/" {
		t.Errorf("%d, %d, %s, %s", n, int(e), text(g), guards(g))
	}
	n, e = wipe.Wipe(g, pos(0, 0), pos(1, 1), dot, true)
	if n != 1 || e != api.OK || text(g) != "#B/#./" || guards(g) != "##/#-/" {
		t.Errorf("%d, %d, %s, %s", n, int(e), text(g), guards(g))
	}
	n, e = wipe.Wipe(g, pos(0, 0), pos(1, 1), lock, false)
	if n != 2 || e != api.OK || text(g) != "##/##/" || guards(g) != "##/##/" {
		t.Errorf("%d, %d, %s, %s", n, int(e), text(g), guards(g))
	}
}

// P7.2: attributes of guarded cells stay with guard; those that were so ahead do not count.
func TestDye(t *testing.T) {
	whole := func(g *grid.Grid[api.Cell]) string {
		return told(g, func(c api.Cell) rune { return rune('0' + c.Attr) })
	}
	for _, c := range []struct {
		from, to   api.Pos
		attr       int
		free, with string
		n, m       int
	}{
		{pos(0, 0), pos(0, 0), 9, "912/345/", "912/345/", 1, 1},
		{pos(0, 1), pos(0, 1), 9, "092/345/", "012/345/", 1, 0},
		{pos(0, 1), pos(0, 2), 9, "099/345/", "019/345/", 2, 1},
		{pos(0, 0), pos(0, 2), 9, "999/345/", "919/345/", 3, 2},
		{pos(0, 2), pos(1, 0), 9, "019/945/", "019/945/", 2, 2},
		{pos(1, 0), pos(1, 2), 9, "012/999/", "012/995/", 3, 2},
		{pos(0, 0), pos(1, 2), 9, "999/999/", "919/995/", 6, 4},
		{pos(0, 0), pos(1, 2), 1, "111/111/", "111/115/", 5, 4},
		{pos(0, 0), pos(1, 2), 3, "333/333/", "313/335/", 5, 3},
		{pos(1, 0), pos(1, 0), 3, "012/345/", "012/345/", 0, 0},
		{pos(1, 2), pos(1, 2), 5, "012/345/", "012/345/", 0, 0},
		{pos(0, 0), pos(0, 1), 0, "002/345/", "012/345/", 1, 0},
	} {
		g, h := board(t, "aBc", "deF"), board(t, "aBc", "deF")
		n, e := wipe.Dye(g, c.from, c.to, c.attr, false)
		m, f := wipe.Dye(h, c.from, c.to, c.attr, true)
		if n != c.n || e != api.OK || whole(g) != c.free {
			t.Errorf("Dye(%v, %v, %d): %d, %d, %s, not %d, %s", c.from, c.to, c.attr, n, int(e), whole(g), c.n, c.free)
		}
		if m != c.m || f != api.OK || whole(h) != c.with {
			t.Errorf("Dye(%v, %v, %d) with guard: %d, %d, %s, not %d, %s", c.from, c.to, c.attr, m, int(f), whole(h), c.m, c.with)
		}
	}
}

// P7.2: whatever number the attributes are, and glyph, guard and mark are as they were.
func TestDyeOfAnyNumber(t *testing.T) {
	for _, attr := range append([]int{0, 1, -1, api.Bold, api.Colour | 7*api.Fore | 7*api.Back, api.All, api.All + 1}, far...) {
		for _, guard := range []bool{false, true} {
			was := made(t, 3, 4, some)
			g := was.Copy()
			n, e := wipe.Dye(g, pos(0, 0), pos(2, 3), attr, guard)
			want := 0
			for p, c := range was.All() {
				now, _ := g.At(p)
				dyed := api.Cell{Glyph: c.Glyph, Attr: attr, Guard: c.Guard, Mark: c.Mark}
				if guard && c.Guard {
					dyed = c
				}
				if dyed != c {
					want++
				}
				if now != dyed {
					t.Errorf("Dye(%d, %v): %v is %v, not %v", attr, guard, p, now, dyed)
				}
			}
			if n != want || e != api.OK {
				t.Errorf("Dye(%d, %v): %d, %d, not %d", attr, guard, n, int(e), want)
			}
		}
	}
}

// P7.2: guarded cells at both ends, between them, and beyond them; all but Guard is as it was.
func TestShield(t *testing.T) {
	for _, c := range []struct {
		from, to api.Pos
		on, off  string
		n, m     int
	}{
		{pos(0, 0), pos(0, 0), "##--/--#-/---#/", "-#--/--#-/---#/", 1, 0},
		{pos(0, 1), pos(0, 1), "-#--/--#-/---#/", "----/--#-/---#/", 0, 1},
		{pos(0, 1), pos(0, 3), "-###/--#-/---#/", "----/--#-/---#/", 2, 1},
		{pos(1, 1), pos(1, 3), "-#--/-###/---#/", "-#--/----/---#/", 2, 1},
		{pos(0, 1), pos(1, 2), "-###/###-/---#/", "----/----/---#/", 4, 2},
		{pos(0, 2), pos(1, 1), "-###/###-/---#/", "-#--/--#-/---#/", 4, 0},
		{pos(0, 3), pos(2, 0), "-#-#/####/#--#/", "-#--/----/---#/", 5, 1},
		{pos(2, 3), pos(2, 3), "-#--/--#-/---#/", "-#--/--#-/----/", 0, 1},
		{pos(0, 0), pos(2, 3), "####/####/####/", "----/----/----/", 9, 3},
	} {
		g, h := board(t, "aBcd", "efGh", "ijkL"), board(t, "aBcd", "efGh", "ijkL")
		n, e := wipe.Shield(g, c.from, c.to, true)
		m, f := wipe.Shield(h, c.from, c.to, false)
		if n != c.n || e != api.OK || guards(g) != c.on {
			t.Errorf("Shield(%v, %v, true): %d, %d, %s, not %d, %s", c.from, c.to, n, int(e), guards(g), c.n, c.on)
		}
		if m != c.m || f != api.OK || guards(h) != c.off {
			t.Errorf("Shield(%v, %v, false): %d, %d, %s, not %d, %s", c.from, c.to, m, int(f), guards(h), c.m, c.off)
		}
		if want := "aBcd/efGh/ijkL/"; text(g) != want || text(h) != want {
			t.Errorf("Shield(%v, %v): %s, %s", c.from, c.to, text(g), text(h))
		}
	}
}

// P7.2, P7.3: whichever cells are guarded, from each place to each one behind it; just those cells are turned that are to be.
func TestCallsOfAnyCells(t *testing.T) {
	for number := range 1 << 6 {
		was := made(t, 2, 3, bits(number, 3))
		all := places(was.Size())
		for i, from := range all {
			for _, to := range all[i:] {
				for _, k := range calls() {
					holds(t, was, from, to, k)
				}
			}
		}
	}
}

// P7.2: whichever cells are as they should be ahead.
func TestCallsOfCellsThatAreSo(t *testing.T) {
	for number := range 1 << 6 {
		for _, k := range calls() {
			was := made(t, 2, 3, some)
			for p, c := range was.All() {
				if bits(number, 3)(p) {
					was.Set(p, k.leave(c))
				}
			}
			for _, ends := range [][2]api.Pos{{pos(0, 0), pos(1, 2)}, {pos(0, 2), pos(1, 0)}, {pos(0, 1), pos(0, 1)}, {pos(1, 0), pos(1, 2)}} {
				holds(t, was, ends[0], ends[1], k)
			}
		}
	}
}

// P7.2: of one row, of one column, and of the greatest grid.
func TestCallsOfTheGreatest(t *testing.T) {
	for _, s := range []api.Size{size(1, 255), size(255, 1), size(255, 255)} {
		was := made(t, s.Rows, s.Cols, some)
		last := pos(s.Rows-1, s.Cols-1)
		middle := pos(s.Rows/2, s.Cols/2)
		for _, ends := range [][2]api.Pos{{pos(0, 0), last}, {pos(0, 0), middle}, {middle, last}, {middle, middle}, {last, last}} {
			for _, k := range []call{wiping(dot, false), wiping(dot, true), dyeing(-1, false), dyeing(-1, true), shielding(true), shielding(false)} {
				holds(t, was, ends[0], ends[1], k)
			}
		}
	}
	g := made(t, 255, 255, none)
	if n, e := wipe.Wipe(g, pos(0, 0), pos(254, 254), dot, true); n != 255*255 || e != api.OK {
		t.Errorf("Wipe of all: %d, %d", n, int(e))
	}
	if n, e := wipe.Shield(g, pos(0, 0), pos(254, 254), true); n != 255*255 || e != api.OK {
		t.Errorf("Shield of all: %d, %d", n, int(e))
	}
	if n, e := wipe.Dye(g, pos(0, 0), pos(254, 254), 1, true); n != 0 || e != api.OK {
		t.Errorf("Dye of all that are guarded: %d, %d", n, int(e))
	}
}

// P7.2: to ahead of from, in an earlier column, in an earlier row, in an earlier row of a later column.
func TestCallsWithToAheadOfFrom(t *testing.T) {
	for _, guarded := range []func(api.Pos) bool{none, some, every} {
		was := made(t, 3, 4, guarded)
		all := places(was.Size())
		for i, from := range all {
			for _, to := range all[:i] {
				for _, k := range calls() {
					refused(t, was, from, to, k, api.ErrArg)
				}
			}
		}
	}
}

// P7.2: ErrRange comes ahead of ErrArg: of either place, and of both.
func TestCallsOfPlacesThatAreNotThere(t *testing.T) {
	for _, guarded := range []func(api.Pos) bool{none, every} {
		was := made(t, 2, 3, guarded)
		for _, p := range absent(2, 3) {
			for _, k := range calls() {
				for _, q := range []api.Pos{pos(0, 0), pos(0, 2), pos(1, 1), pos(1, 2), pos(-1, 1), pos(2, 0), pos(0, 3), pos(math.MaxInt, math.MinInt), p} {
					refused(t, was, p, q, k, api.ErrRange)
					refused(t, was, q, p, k, api.ErrRange)
				}
			}
		}
	}
}

// P7.2, R1: ErrNil comes ahead of all other errors.
func TestCallsOfANilGrid(t *testing.T) {
	for _, k := range calls() {
		for _, ends := range [][2]api.Pos{{pos(0, 0), pos(0, 0)}, {pos(0, 0), pos(1, 1)}, {pos(1, 1), pos(0, 0)}, {pos(-1, 0), pos(0, 0)}, {pos(0, 0), pos(math.MaxInt, math.MinInt)}} {
			if n, e := k.do(nil, ends[0], ends[1]); n != 0 || e != api.ErrNil {
				t.Errorf("%s of a nil grid, %v: %d, %d", k.name, ends, n, int(e))
			}
		}
	}
}

// P7.3: no cell ahead of from, and none behind to, is turned.
func TestNothingElseIsTurned(t *testing.T) {
	was := made(t, 3, 4, some)
	all := places(was.Size())
	for i, from := range all {
		for j, to := range all[i:] {
			for _, k := range calls() {
				g := was.Copy()
				k.do(g, from, to)
				for n, p := range all {
					now, _ := g.At(p)
					if c, _ := was.At(p); (n < i || n > i+j) && now != c {
						t.Errorf("%s from %v to %v turned %v", k.name, from, to, p)
					}
				}
			}
		}
	}
}

// P7.3: the second time nothing is turned, of any call.
func TestTwiceIsTurnedOnce(t *testing.T) {
	for number := range 1 << 6 {
		was := made(t, 2, 3, bits(number, 3))
		all := places(was.Size())
		for i, from := range all {
			for _, to := range all[i:] {
				for _, k := range calls() {
					g := was.Copy()
					k.do(g, from, to)
					once := g.Copy()
					if n, e := k.do(g, from, to); n != 0 || e != api.OK || !g.Same(once) {
						t.Errorf("%s of %b from %v to %v, twice: %d, %d", k.name, number, from, to, n, int(e))
					}
				}
			}
		}
	}
}

// P7.3: ToStart and ToEnd are all places, LineStart and LineEnd all of the row; in both pairs only p is in both.
func TestPartsMeetInThePlace(t *testing.T) {
	for _, s := range []api.Size{size(1, 1), size(1, 5), size(5, 1), size(3, 4), size(24, 80)} {
		for _, p := range places(s) {
			first, near, _ := wipe.Part(s, p, wipe.ToStart)
			next, last, _ := wipe.Part(s, p, wipe.ToEnd)
			from, to, _ := wipe.Part(s, p, wipe.All)
			if near != p || next != p || first != from || last != to {
				t.Errorf("of %v at %v: %v to %v, %v to %v; all: %v to %v", s, p, first, near, next, last, from, to)
			}
			first, near, _ = wipe.Part(s, p, wipe.LineStart)
			next, last, _ = wipe.Part(s, p, wipe.LineEnd)
			from, to, _ = wipe.Part(s, p, wipe.Line)
			if near != p || next != p || first != from || last != to {
				t.Errorf("of %v at %v: %v to %v, %v to %v; the row: %v to %v", s, p, first, near, next, last, from, to)
			}
		}
	}
}

// P7.1, P7.3: what is wiped of a part is its places, and no others; of the pairs together, each place once, and p twice.
func TestWipeOfParts(t *testing.T) {
	s := size(3, 4)
	for _, p := range places(s) {
		counts := map[int]int{}
		for _, part := range parts {
			g := made(t, s.Rows, s.Cols, none)
			from, to, _ := wipe.Part(s, p, part)
			counts[part], _ = wipe.Wipe(g, from, to, dot, false)
			for q, c := range g.All() {
				if (c == dot) != belongs(q, p, part) {
					t.Errorf("%s of %v: %v is %v", partNames[part-1], p, q, c)
				}
			}
		}
		if counts[wipe.ToStart]+counts[wipe.ToEnd] != counts[wipe.All]+1 || counts[wipe.LineStart]+counts[wipe.LineEnd] != counts[wipe.Line]+1 {
			t.Errorf("at %v: %v", p, counts)
		}
	}
}

// P7.3: Shield, and back, frees what was guarded ahead, and turns nothing else; the other way round, it guards what was free.
func TestShieldAndBack(t *testing.T) {
	for number := range 1 << 6 {
		was := made(t, 2, 3, bits(number, 3))
		all := places(was.Size())
		for i, from := range all {
			for j, to := range all[i:] {
				for _, on := range []bool{true, false} {
					g := was.Copy()
					wipe.Shield(g, from, to, on)
					wipe.Shield(g, from, to, !on)
					for n, p := range all {
						c, _ := was.At(p)
						now, _ := g.At(p)
						if n >= i && n <= i+j && c.Guard == on {
							c.Guard = !on
						}
						if now != c {
							t.Errorf("Shield of %b from %v to %v, %v and back: %v is %v, not %v", number, from, to, on, p, now, c)
						}
					}
				}
			}
		}
	}
}

// P7.3: what is shielded stays as it is, of Wipe and Dye with guard; what is freed then does not.
func TestWhatIsShieldedStays(t *testing.T) {
	g := board(t, "abc", "def")
	wipe.Shield(g, pos(0, 1), pos(1, 0), true)
	was := g.Copy()
	n, _ := wipe.Wipe(g, pos(0, 1), pos(1, 0), dot, true)
	m, _ := wipe.Dye(g, pos(0, 1), pos(1, 0), -1, true)
	if n != 0 || m != 0 || !g.Same(was) {
		t.Errorf("%d, %d, %s", n, m, text(g))
	}
	wipe.Shield(g, pos(0, 2), pos(0, 2), false)
	n, e := wipe.Wipe(g, pos(0, 0), pos(1, 2), dot, true)
	if n != 4 || e != api.OK || text(g) != ".b./d../" || guards(g) != "-#-/#--/" {
		t.Errorf("%d, %d, %s, %s", n, int(e), text(g), guards(g))
	}
}

// R2, R3: of the same grid the same is answered and left, whatever other grids have had; and those are not turned by it.
func TestOneState(t *testing.T) {
	was := made(t, 3, 4, some)
	for _, k := range calls() {
		g, h := was.Copy(), was.Copy()
		n, e := k.do(g, pos(0, 1), pos(2, 2))
		if !h.Same(was) {
			t.Errorf("%s turned another grid", k.name)
		}
		if m, f := k.do(h, pos(0, 1), pos(2, 2)); n != m || e != f || !g.Same(h) {
			t.Errorf("%s: %d, %d and %d, %d", k.name, n, int(e), m, int(f))
		}
	}
}
