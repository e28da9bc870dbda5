package walk_test

import (
	"math"
	"testing"

	"vizard/api"
	"vizard/walk"
)

// The sentence at the head of the promises: of a size that may not be all answer zero, false, ErrSize.
func TestSizeThatMayNotBe(t *testing.T) {
	for _, s := range badSizes {
		for _, p := range []api.Pos{pos(0, 0), pos(1, 2), pos(-1, -1), pos(255, 255), pos(math.MaxInt, math.MinInt)} {
			if got := walk.Near(s, p); got != pos(0, 0) {
				t.Errorf("Near(%v, %v): %v", s, p, got)
			}
			for _, n := range []int{0, 1, -1, math.MaxInt, math.MinInt} {
				for _, pends := range []bool{false, true} {
					if got := walk.Step(s, walk.Place{Pos: p, Pending: pends}, n, n); got != at(0, 0) {
						t.Errorf("Step(%v, %v, %d): %v", s, p, n, got)
					}
				}
			}
			for _, pends := range []bool{false, true} {
				if got, up := walk.Ahead(s, walk.Place{Pos: p, Pending: pends}); got != pos(0, 0) || up {
					t.Errorf("Ahead(%v, %v, %v): %v, %v", s, p, pends, got, up)
				}
			}
			for _, wrap := range ways {
				if got, up := walk.Behind(s, p, wrap); got != at(0, 0) || up {
					t.Errorf("Behind(%v, %v, %d): %v, %v", s, p, wrap, got, up)
				}
			}
			// R1: ErrSize is named ahead of ErrRange.
			if n, e := walk.Index(s, p); n != 0 || e != api.ErrSize {
				t.Errorf("Index(%v, %v): %d, %d", s, p, n, int(e))
			}
		}
		for _, n := range []int{0, 1, -1, 5, 65025, math.MaxInt, math.MinInt} {
			if p, e := walk.Of(s, n); p != pos(0, 0) || e != api.ErrSize {
				t.Errorf("Of(%v, %d): %v, %d", s, n, p, int(e))
			}
		}
	}
}

// P4.1
func TestNear(t *testing.T) {
	for _, c := range []struct{ p, want api.Pos }{
		{pos(0, 0), pos(0, 0)}, {pos(1, 2), pos(1, 2)}, {pos(0, 1), pos(0, 1)},
		{pos(-1, 1), pos(0, 1)}, {pos(2, 1), pos(1, 1)}, {pos(1, -1), pos(1, 0)}, {pos(0, 3), pos(0, 2)},
		{pos(-1, 3), pos(0, 2)}, {pos(math.MaxInt, math.MinInt), pos(1, 0)}, {pos(math.MinInt, math.MaxInt), pos(0, 2)},
	} {
		if got := walk.Near(size(2, 3), c.p); got != c.want {
			t.Errorf("Near(%v): %v, not %v", c.p, got, c.want)
		}
	}
	for _, s := range goodSizes {
		for _, p := range places(s) {
			if got, want := walk.Near(s, p), near(s, p); got != want {
				t.Errorf("Near(%v, %v): %v, not %v", s, p, got, want)
			}
		}
	}
}

// P4.1
func TestStep(t *testing.T) {
	for _, c := range []struct {
		p          api.Pos
		rows, cols int
		want       api.Pos
	}{
		{pos(0, 2), 5, -1, pos(1, 1)}, {pos(0, 0), 1, 2, pos(1, 2)}, {pos(1, 2), -1, -2, pos(0, 0)}, {pos(0, 1), 0, 0, pos(0, 1)},
		{pos(0, 0), -1, -1, pos(0, 0)}, {pos(1, 2), 1, 1, pos(1, 2)}, {pos(0, 0), 2, 3, pos(1, 2)}, {pos(1, 2), -2, -3, pos(0, 0)},
		// From the nearest place, not from where it is said to be.
		{pos(5, 9), -1, -1, pos(0, 1)}, {pos(-5, -9), 1, 1, pos(1, 1)}, {pos(math.MinInt, math.MaxInt), 1, -2, pos(1, 0)},
		{pos(1, 2), math.MaxInt, math.MinInt, pos(1, 0)}, {pos(1, 0), math.MinInt, math.MaxInt, pos(0, 2)},
	} {
		for _, pends := range []bool{false, true} {
			if got := walk.Step(size(2, 3), walk.Place{Pos: c.p, Pending: pends}, c.rows, c.cols); got != (walk.Place{Pos: c.want}) {
				t.Errorf("Step(%v, %d, %d): %v, not %v", c.p, c.rows, c.cols, got, c.want)
			}
		}
	}
}

// P4.1: each number of rows, and each of columns, from each place, those that are not there too.
func TestStepFar(t *testing.T) {
	for _, s := range goodSizes {
		across := edges(s.Cols)
		for k, p := range places(s) {
			start := near(s, p)
			for i, rows := range edges(s.Rows) {
				cols := across[(i+k)%len(across)]
				want := at(nearest(s.Rows, start.Row, rows), nearest(s.Cols, start.Col, cols))
				if got := walk.Step(s, walk.Place{Pos: p, Pending: i%2 == 0}, rows, cols); got != want {
					t.Fatalf("Step(%v, %v, %d, %d): %v, not %v", s, p, rows, cols, got, want)
				}
			}
		}
	}
}

// P4.1: over the whole of the greatest screen, and one beyond.
func TestStepAcross(t *testing.T) {
	s := size(255, 255)
	for _, c := range []struct {
		p    api.Pos
		n    int
		want api.Pos
	}{
		{pos(0, 0), 253, pos(253, 253)}, {pos(0, 0), 254, pos(254, 254)}, {pos(0, 0), 255, pos(254, 254)}, {pos(0, 0), 256, pos(254, 254)},
		{pos(254, 254), -253, pos(1, 1)}, {pos(254, 254), -254, pos(0, 0)}, {pos(254, 254), -255, pos(0, 0)}, {pos(254, 254), -256, pos(0, 0)},
	} {
		if got := walk.Step(s, walk.Place{Pos: c.p}, c.n, c.n); got != (walk.Place{Pos: c.want}) {
			t.Errorf("Step(%v, %d): %v, not %v", c.p, c.n, got, c.want)
		}
	}
}

// P4.1
func TestIndex(t *testing.T) {
	for _, c := range []struct {
		p    api.Pos
		want int
	}{{pos(0, 0), 0}, {pos(0, 1), 1}, {pos(0, 2), 2}, {pos(1, 0), 3}, {pos(1, 2), 5}} {
		if n, e := walk.Index(size(2, 3), c.p); n != c.want || e != api.OK {
			t.Errorf("Index(%v): %d, %d, not %d", c.p, n, int(e), c.want)
		}
	}
	for _, s := range goodSizes {
		for _, p := range places(s) {
			n, e := walk.Index(s, p)
			if there(s, p) && (n != p.Row*s.Cols+p.Col || e != api.OK) || !there(s, p) && (n != 0 || e != api.ErrRange) {
				t.Errorf("Index(%v, %v): %d, %d", s, p, n, int(e))
			}
		}
	}
}

// P4.1
func TestOf(t *testing.T) {
	for i, want := range []api.Pos{pos(0, 0), pos(0, 1), pos(0, 2), pos(1, 0), pos(1, 1), pos(1, 2)} {
		if p, e := walk.Of(size(2, 3), i); p != want || e != api.OK {
			t.Errorf("Of(%d): %v, %d", i, p, int(e))
		}
	}
	for _, s := range goodSizes {
		count := s.Rows * s.Cols
		for _, n := range edges(count) {
			p, e := walk.Of(s, n)
			if n < 0 || n >= count {
				if p != pos(0, 0) || e != api.ErrRange {
					t.Errorf("Of(%v, %d): %v, %d", s, n, p, int(e))
				}
			} else if p != pos(n/s.Cols, n%s.Cols) || e != api.OK {
				t.Errorf("Of(%v, %d): %v, %d", s, n, p, int(e))
			}
		}
	}
}

// P4.2
func TestAhead(t *testing.T) {
	for _, c := range []struct {
		s    api.Size
		p    walk.Place
		want api.Pos
		up   bool
	}{
		{size(2, 3), at(0, 2), pos(0, 2), false}, {size(2, 3), at(1, 2), pos(1, 2), false}, {size(2, 3), at(0, 0), pos(0, 0), false},
		{size(2, 3), at(-1, 5), pos(0, 2), false}, {size(2, 3), at(math.MaxInt, math.MinInt), pos(1, 0), false},
		{size(2, 3), pending(0, 2), pos(1, 0), false}, {size(2, 3), pending(1, 2), pos(1, 0), true},
		// Pending counts in any column.
		{size(2, 3), pending(0, 1), pos(1, 0), false}, {size(2, 3), pending(1, 0), pos(1, 0), true},
		// The next row is that behind the nearest one.
		{size(2, 3), pending(-1, 2), pos(1, 0), false}, {size(2, 3), pending(math.MinInt, math.MinInt), pos(1, 0), false},
		{size(2, 3), pending(2, 2), pos(1, 0), true}, {size(2, 3), pending(math.MaxInt, math.MaxInt), pos(1, 0), true},
		{size(3, 1), pending(0, 0), pos(1, 0), false}, {size(3, 1), pending(1, 0), pos(2, 0), false}, {size(3, 1), pending(2, 0), pos(2, 0), true},
		{size(1, 3), pending(0, 2), pos(0, 0), true}, {size(1, 3), at(0, 2), pos(0, 2), false}, {size(1, 1), pending(0, 0), pos(0, 0), true},
		{size(255, 255), pending(253, 254), pos(254, 0), false}, {size(255, 255), pending(254, 254), pos(254, 0), true},
	} {
		if got, up := walk.Ahead(c.s, c.p); got != c.want || up != c.up {
			t.Errorf("Ahead(%v, %v): %v, %v, not %v, %v", c.s, c.p, got, up, c.want, c.up)
		}
	}
}

// P4.2
func TestBehind(t *testing.T) {
	if walk.Clamp != 1 || walk.Auto != 2 || walk.Pend != 3 {
		t.Error(walk.Clamp, walk.Auto, walk.Pend)
	}
	for _, c := range []struct {
		s    api.Size
		p    api.Pos
		wrap int
		want walk.Place
		up   bool
	}{
		{size(2, 3), pos(0, 2), walk.Clamp, at(0, 2), false}, {size(2, 3), pos(1, 2), walk.Clamp, at(1, 2), false},
		{size(2, 3), pos(0, 2), walk.Auto, at(1, 0), false}, {size(2, 3), pos(1, 2), walk.Auto, at(1, 0), true},
		{size(2, 3), pos(0, 2), walk.Pend, pending(0, 2), false}, {size(2, 3), pos(1, 2), walk.Pend, pending(1, 2), false},
		{size(2, 3), pos(0, 2), 0, pending(0, 2), false}, {size(2, 3), pos(1, 2), 4, pending(1, 2), false},
		{size(2, 3), pos(1, 2), -1, pending(1, 2), false}, {size(2, 3), pos(1, 2), math.MinInt, pending(1, 2), false},
		{size(2, 3), pos(1, 2), 1<<32 + 2, pending(1, 2), false},
		// Of the nearest place.
		{size(2, 3), pos(0, 9), walk.Auto, at(1, 0), false}, {size(2, 3), pos(-9, math.MaxInt), walk.Auto, at(1, 0), false},
		{size(2, 3), pos(math.MaxInt, 3), walk.Auto, at(1, 0), true}, {size(2, 3), pos(9, 9), walk.Clamp, at(1, 2), false},
		{size(2, 3), pos(9, 9), walk.Pend, pending(1, 2), false}, {size(2, 3), pos(9, -9), walk.Auto, at(1, 1), false},
		{size(1, 1), pos(0, 0), walk.Clamp, at(0, 0), false}, {size(1, 1), pos(0, 0), walk.Auto, at(0, 0), true}, {size(1, 1), pos(0, 0), walk.Pend, pending(0, 0), false},
		{size(1, 3), pos(0, 2), walk.Auto, at(0, 0), true}, {size(3, 1), pos(1, 0), walk.Auto, at(2, 0), false}, {size(3, 1), pos(2, 0), walk.Auto, at(2, 0), true},
		{size(255, 255), pos(254, 254), walk.Auto, at(254, 0), true}, {size(255, 255), pos(253, 254), walk.Auto, at(254, 0), false},
	} {
		if got, up := walk.Behind(c.s, c.p, c.wrap); got != c.want || up != c.up {
			t.Errorf("Behind(%v, %v, %d): %v, %v, not %v, %v", c.s, c.p, c.wrap, got, up, c.want, c.up)
		}
	}
}

// P4.2: a column that is not the last one, whatever the way to wrap.
func TestBehindInTheMiddle(t *testing.T) {
	for _, s := range goodSizes {
		for _, p := range places(s) {
			from := near(s, p)
			if from.Col == s.Cols-1 {
				continue
			}
			for _, wrap := range ways {
				if got, up := walk.Behind(s, p, wrap); got != at(from.Row, from.Col+1) || up {
					t.Errorf("Behind(%v, %v, %d): %v, %v", s, p, wrap, got, up)
				}
			}
		}
	}
}

// P4.3
func TestAnswersAreThere(t *testing.T) {
	for _, s := range goodSizes {
		for _, p := range places(s) {
			answers := []api.Pos{walk.Near(s, p)}
			for _, pends := range []bool{false, true} {
				a, _ := walk.Ahead(s, walk.Place{Pos: p, Pending: pends})
				answers = append(answers, a, walk.Step(s, walk.Place{Pos: p, Pending: pends}, p.Col, p.Row).Pos)
			}
			for _, wrap := range ways {
				b, _ := walk.Behind(s, p, wrap)
				answers = append(answers, b.Pos)
			}
			for i, a := range answers {
				if !there(s, a) {
					t.Errorf("size %v, place %v: answer %d is %v", s, p, i, a)
				}
			}
		}
	}
}

// P4.3
func TestOfIndexIsThePlace(t *testing.T) {
	for _, s := range goodSizes {
		count := 0
		for row := range s.Rows {
			for col := range s.Cols {
				n, e := walk.Index(s, pos(row, col))
				p, f := walk.Of(s, n)
				if n != count || p != pos(row, col) || e != api.OK || f != api.OK {
					t.Fatalf("size %v, (%d, %d): Index %d, %d, Of it %v, %d", s, row, col, n, int(e), p, int(f))
				}
				count++
			}
		}
	}
}

// P4.3
func TestStepThereAndBack(t *testing.T) {
	s := size(4, 5)
	for n := range 20 {
		for m := range 20 {
			from, to := pos(n/5, n%5), pos(m/5, m%5)
			rows, cols := to.Row-from.Row, to.Col-from.Col
			on := walk.Step(s, walk.Place{Pos: from, Pending: true}, rows, cols)
			if back := walk.Step(s, on, -rows, -cols); on != (walk.Place{Pos: to}) || back != (walk.Place{Pos: from}) {
				t.Errorf("from %v by %d, %d: %v, and back %v", from, rows, cols, on, back)
			}
		}
	}
}

// P4.3: as many glyphs as there are places, one behind the other.
func TestGlyphsComeByAllPlaces(t *testing.T) {
	for _, s := range goodSizes {
		for _, wrap := range []int{walk.Auto, walk.Pend, 0} {
			glyphs(t, s, wrap)
		}
	}
}

// glyphs puts as many glyphs as there are places, and one more: the lines go up behind the last of them where it wraps at once, and else ahead of the one more.
func glyphs(t *testing.T, s api.Size, wrap int) {
	t.Helper()
	var p walk.Place
	count := s.Rows * s.Cols
	for n := range count {
		put, up := walk.Ahead(s, p)
		if put != pos(n/s.Cols, n%s.Cols) || up {
			t.Fatalf("size %v, wrap %d: glyph %d at %v, up %v", s, wrap, n, put, up)
		}
		p, up = walk.Behind(s, put, wrap)
		if up != (wrap == walk.Auto && n == count-1) {
			t.Fatalf("size %v, wrap %d: behind glyph %d at %v, up %v", s, wrap, n, p, up)
		}
	}
	if put, up := walk.Ahead(s, p); put != pos(s.Rows-1, 0) || up != (wrap != walk.Auto) {
		t.Errorf("size %v, wrap %d: one more at %v, up %v", s, wrap, put, up)
	}
}

// P4.3: of Clamp the glyphs of a row come by its places, and all more by the last one.
func TestGlyphsThatStay(t *testing.T) {
	s := size(2, 3)
	p := at(0, 0)
	for n, want := range []api.Pos{pos(0, 0), pos(0, 1), pos(0, 2), pos(0, 2), pos(0, 2)} {
		put, up := walk.Ahead(s, p)
		if put != want || up {
			t.Errorf("glyph %d at %v, up %v", n, put, up)
		}
		p, up = walk.Behind(s, put, walk.Clamp)
		if up || p.Pending {
			t.Errorf("behind glyph %d: %v, up %v", n, p, up)
		}
	}
}

// A place embeds its position, whose fields are promoted.
func TestPlaceEmbedsItsPosition(t *testing.T) {
	p := walk.Step(size(4, 5), at(1, 1), 1, 2)
	if p.Row != 2 || p.Col != 3 || p.Pos != pos(2, 3) || p.Pending {
		t.Error(p)
	}
}
