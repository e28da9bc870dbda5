package screen_test

import (
	"math"
	"slices"
	"testing"

	"vizard/api"
	"vizard/screen"
	"vizard/walk"
)

// P9.1: sizes that may be, the least and the greatest among them: all that a new screen answers.
func TestNew(t *testing.T) {
	if screen.Blank != blank {
		t.Errorf("Blank is %v", screen.Blank)
	}
	for _, z := range append([]api.Size{size(24, 80), size(1, 255), size(255, 1), size(255, 255)}, small...) {
		s, e := screen.New(z)
		if s == nil || e != api.OK {
			t.Fatalf("New(%v): %v, %d", z, s, int(e))
		}
		want := &plain{cells: slices.Repeat([]api.Cell{blank}, z.Rows*z.Cols), rows: z.Rows, cols: z.Cols}
		if !want.same(s) {
			t.Errorf("New(%v): %v", z, *plainly(s))
		}
		for n := range z.Rows * z.Cols {
			if c, e := s.At(pos(n/z.Cols, n%z.Cols)); c != blank || e != api.OK {
				t.Fatalf("New(%v): the %dth cell is %v, %d", z, n, c, int(e))
			}
		}
		does(t, s, freeing(false), freeing(true), tabbing(-1), tabbing(1))
		if p, pends := s.Cursor(); p != pos(0, z.Cols-1) || pends {
			t.Errorf("New(%v): without stops Tab leads to %v, %v", z, p, pends)
		}
	}
}

// P9.1
func TestNewOfSizesThatMayNotBe(t *testing.T) {
	for _, z := range badSizes {
		if s, e := screen.New(z); s != nil || e != api.ErrSize {
			t.Errorf("New(%v): %v, %d", z, s, int(e))
		}
	}
}

// P9.1, R3: each screen is its own.
func TestScreensAreTheirOwn(t *testing.T) {
	a, b := board(t, at(0, 0), "abc", "def"), board(t, at(0, 0), "abc", "def")
	a.Set(pos(1, 1), dot)
	a.Stops(1)
	a.Step(1, 1)
	is(t, "turned", a, "abc/d.f/", at(1, 1))
	is(t, "another one", b, "abc/def/", at(0, 0))
	if len(b.Listed()) != 0 {
		t.Error(b.Listed())
	}
}

// P9.1: what was set is there, and nothing else is turned, wherever the cursor is.
func TestAtAndSet(t *testing.T) {
	for _, z := range small {
		for _, cursor := range cursors(z) {
			for _, p := range everywhere(z) {
				for _, c := range []api.Cell{dot, lock, {}} {
					s := made(t, z, cursor, none, 0)
					does(t, s, setting(p, c))
					got, e := s.At(p)
					if there(z, p) && (got != c || e != api.OK) || !there(z, p) && (got != (api.Cell{}) || e != api.ErrRange) {
						t.Errorf("At(%v) of %v: %v, %d", p, z, got, int(e))
					}
				}
			}
		}
	}
	s := board(t, pending(1, 2), "abC", "def")
	refuses(t, "Set of (1, 3)", s.Set(pos(1, 3), dot), api.ErrRange)
	refuses(t, "Set of (2, 0)", s.Set(pos(2, 0), dot), api.ErrRange)
	refuses(t, "Set of (-1, 0)", s.Set(pos(-1, 0), dot), api.ErrRange)
	refuses(t, "Set of (0, 2), which is guarded", s.Set(pos(0, 2), dot), api.OK)
	is(t, "Set", s, "ab./def/", pending(1, 2))
}

// P9.1, R2: Rows and Listed are the caller's own.
func TestRowsAndListedAreTheCallers(t *testing.T) {
	s := made(t, size(2, 3), at(1, 1), bits(0b101), 0, 2)
	was := plainly(s)
	rows, stops := s.Rows(), s.Listed()
	for _, row := range rows {
		clear(row)
	}
	clear(stops)
	clear(rows)
	if !was.same(s) {
		t.Errorf("%v, not %v", *plainly(s), *was)
	}
	rows, stops = s.Rows(), s.Listed()
	_ = append(rows[0], dot)
	s.Set(pos(0, 0), dot)
	s.Stops(1)
	s.Part(1, dot, false)
	if rows[0][0] != was.cells[0] || rows[1][0] != was.cells[3] || !slices.Equal(stops, []int{0, 2}) {
		t.Errorf("%v, %v", rows, stops)
	}
}

// P9.4: greater, smaller, both, the same one; cells, stops and the cursor.
func TestResize(t *testing.T) {
	for _, c := range []struct {
		cursor walk.Place
		z      api.Size
		want   string
		next   walk.Place
		stops  []int
	}{
		{at(1, 1), size(2, 3), "aBc/def/", at(1, 1), []int{0, 2}},
		{pending(1, 2), size(2, 3), "aBc/def/", at(1, 2), []int{0, 2}},
		{at(1, 1), size(3, 4), "aBc /def /    /", at(1, 1), []int{0, 2}},
		{pending(0, 2), size(3, 4), "aBc /def /    /", at(0, 2), []int{0, 2}},
		{at(1, 2), size(1, 1), "a/", at(0, 0), []int{0}},
		{at(1, 2), size(1, 3), "aBc/", at(0, 2), []int{0, 2}},
		{at(1, 2), size(2, 2), "aB/de/", at(1, 1), []int{0}},
		{pending(1, 2), size(2, 2), "aB/de/", at(1, 1), []int{0}},
		{at(0, 2), size(3, 2), "aB/de/  /", at(0, 1), []int{0}},
		{at(1, 0), size(1, 5), "aBc  /", at(0, 0), []int{0, 2}},
		{at(0, 0), size(1, 1), "a/", at(0, 0), []int{0}},
	} {
		s := board(t, c.cursor, "aBc", "def")
		s.Stop(0, true)
		s.Stop(2, true)
		refuses(t, "Resize", s.Resize(c.z), api.OK)
		is(t, "Resize", s, c.want, c.next)
		if s.Size() != c.z || !slices.Equal(s.Listed(), c.stops) {
			t.Errorf("Resize to %v: %v, %v", c.z, s.Size(), s.Listed())
		}
		if p := pos(c.z.Rows-1, c.z.Cols-1); c.z.Cols > 3 {
			if got, _ := s.At(p); got != blank {
				t.Errorf("Resize to %v fills with %v", c.z, got)
			}
		}
	}
}

// P9.4: from each small size to each other one, from wherever the cursor may be, with each column a stop; and on to another one.
func TestResizeOfAnySize(t *testing.T) {
	all := append([]api.Size{size(4, 4), size(1, 255), size(255, 1)}, small...)
	for _, z := range small {
		for _, cursor := range cursors(z) {
			for i, to := range all {
				does(t, made(t, z, cursor, bits(0b011010), 0, z.Cols/2, z.Cols-1), resizing(to), resizing(all[(i+5)%len(all)]))
			}
		}
	}
	for _, to := range []api.Size{size(255, 255), size(254, 255), size(1, 1), size(25, 80), size(24, 81)} {
		does(t, made(t, size(24, 80), pending(23, 79), none, 8, 79), resizing(to), resizing(size(24, 80)))
	}
}

// P9.4: sizes that may not be turn nothing, neither the cursor nor whether it is Pending.
func TestResizeToSizesThatMayNotBe(t *testing.T) {
	for _, z := range badSizes {
		for _, cursor := range []walk.Place{at(0, 0), at(1, 2), pending(0, 2), pending(1, 2)} {
			s := made(t, size(2, 3), cursor, bits(0b000110), 1, 2)
			was := plainly(s)
			refuses(t, "Resize", s.Resize(z), api.ErrSize)
			if !was.same(s) {
				t.Errorf("Resize(%v): %v, not %v", z, *plainly(s), *was)
			}
		}
	}
}

// P9.4: a column that went has no stop when it comes again; the columns that come are stops only when Stops is called anew.
func TestResizeLosesStops(t *testing.T) {
	s := made(t, size(2, 20), at(0, 0), none)
	s.Stops(8)
	s.Resize(size(2, 16))
	s.Resize(size(2, 40))
	if !slices.Equal(s.Listed(), []int{8}) {
		t.Error(s.Listed())
	}
	s.Stops(8)
	s.Stop(39, true)
	if !slices.Equal(s.Listed(), []int{8, 16, 24, 32, 39}) {
		t.Error(s.Listed())
	}
}

// P9.4: a copy is the same, of wherever the cursor is, and whatever is guarded.
func TestCopy(t *testing.T) {
	for _, z := range append([]api.Size{size(24, 80), size(255, 255)}, small...) {
		for _, cursor := range []walk.Place{at(0, 0), at(z.Rows/2, z.Cols/2), at(z.Rows-1, z.Cols-1), pending(0, z.Cols-1), pending(z.Rows-1, z.Cols-1)} {
			s := made(t, z, cursor, bits(0b100101), 0, z.Cols-1)
			c := s.Copy()
			if c == s || !plainly(s).same(c) {
				t.Errorf("Copy of %v: %v", z, *plainly(c))
			}
		}
	}
}

// P9.4: a copy goes its own way, and so does what was copied, whatever is called.
func TestCopyGoesItsOwnWay(t *testing.T) {
	for _, a := range some(size(2, 3)) {
		for _, cursor := range []walk.Place{at(0, 1), pending(1, 2)} {
			s := made(t, size(2, 3), cursor, bits(0b000010), 0, 2)
			c, was := s.Copy(), plainly(s)
			does(t, c, a)
			if !was.same(s) {
				t.Errorf("%v of a copy: %v, not %v", a.what, *plainly(s), *was)
			}
			d := s.Copy()
			does(t, s, a)
			if !was.same(d) {
				t.Errorf("%v, and its copy: %v, not %v", a.what, *plainly(d), *was)
			}
			if !plainly(c).same(s) {
				t.Errorf("%v: of a copy %v, else %v", a.what, *plainly(c), *plainly(s))
			}
		}
	}
}

// P9.1 to P9.4, R1: of a nil screen nothing is answered but ErrNil, whatever is told.
func TestCallsOfANilScreen(t *testing.T) {
	var s *screen.Screen
	p, pends := s.Cursor()
	if s.Size() != (api.Size{}) || p != pos(0, 0) || pends || s.Rows() != nil || s.Listed() != nil || s.Copy() != nil || s.Free(false) || s.Free(true) {
		t.Errorf("%v, %v, %v, %v, %v, %v", s.Size(), p, pends, s.Rows(), s.Listed(), s.Copy())
	}
	for _, p := range []api.Pos{pos(0, 0), pos(3, 5), pos(-1, -1), pos(math.MaxInt, math.MinInt)} {
		if c, e := s.At(p); c != (api.Cell{}) || e != api.ErrNil {
			t.Errorf("At(%v): %v, %d", p, c, int(e))
		}
		refuses(t, "Set", s.Set(p, dot), api.ErrNil)
		for _, guard := range []bool{false, true} {
			s.Wipe(p, pos(1, 1), dot, guard)
			s.Wipe(pos(1, 1), p, dot, guard)
		}
		s.Move(p)
		s.Step(p.Row, p.Col)
		// ErrNil is named ahead of ErrSize.
		refuses(t, "Resize", s.Resize(size(p.Row, p.Col)), api.ErrNil)
	}
	refuses(t, "Resize", s.Resize(size(24, 80)), api.ErrNil)
	for _, n := range steps(3) {
		s.Feed(n)
		s.Tab(n)
		s.Stops(n)
		for _, on := range []bool{false, true} {
			s.Stop(n, on)
			s.Put(dot, n, on)
			s.Part(n, dot, on)
			s.Lines(n, dot, on)
			s.Chars(n, dot, on)
		}
	}
}
