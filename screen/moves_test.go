package screen_test

import (
	"math"
	"slices"
	"testing"

	"vizard/api"
	"vizard/walk"
)

// P9.2: places that are there, and ones beyond each edge.
func TestMove(t *testing.T) {
	for _, c := range []struct {
		to   api.Pos
		want walk.Place
	}{
		{pos(0, 0), at(0, 0)}, {pos(1, 2), at(1, 2)}, {pos(1, 1), at(1, 1)}, {pos(-1, 1), at(0, 1)}, {pos(2, 1), at(1, 1)},
		{pos(1, -1), at(1, 0)}, {pos(0, 3), at(0, 2)}, {pos(9, -9), at(1, 0)}, {pos(math.MaxInt, math.MaxInt), at(1, 2)},
		{pos(math.MinInt, math.MinInt), at(0, 0)}, {pos(math.MaxInt, math.MinInt), at(1, 0)}, {pos(math.MinInt, math.MaxInt), at(0, 2)},
	} {
		for _, cursor := range cursors(size(2, 3)) {
			s := board(t, cursor, "abc", "dEf")
			s.Move(c.to)
			is(t, "Move", s, "abc/dEf/", c.want)
		}
	}
	for _, z := range append([]api.Size{size(24, 80), size(255, 255)}, small...) {
		s := made(t, z, pending(z.Rows-1, z.Cols-1), none, 0)
		for _, row := range append(beyond(z.Rows), 0, z.Rows/2, z.Rows-1) {
			for _, col := range append(beyond(z.Cols), 0, z.Cols/2, z.Cols-1) {
				s.Move(pos(row, col))
				if p, pends := s.Cursor(); p != pos(nearest(row, z.Rows), nearest(col, z.Cols)) || pends {
					t.Errorf("Move to (%d, %d) of %v: %v, %v", row, col, z, p, pends)
				}
			}
		}
	}
}

// P9.2: from everywhere, by nothing, by few, beyond each edge; also by the greatest and the smallest int.
func TestStep(t *testing.T) {
	for _, c := range []struct {
		from       walk.Place
		rows, cols int
		want       walk.Place
	}{
		{at(0, 0), 1, 2, at(1, 2)}, {at(1, 2), -1, -2, at(0, 0)}, {at(0, 2), 5, -1, at(1, 1)}, {at(1, 1), 0, 0, at(1, 1)},
		{pending(0, 2), 0, 0, at(0, 2)}, {pending(1, 2), -1, -1, at(0, 1)}, {pending(1, 2), 1, 1, at(1, 2)}, {at(0, 0), -1, -1, at(0, 0)},
		{at(1, 2), math.MaxInt, math.MinInt, at(1, 0)}, {at(1, 0), math.MinInt, math.MaxInt, at(0, 2)},
	} {
		s := board(t, c.from, "abc", "dEf")
		s.Step(c.rows, c.cols)
		is(t, "Step", s, "abc/dEf/", c.want)
	}
	for _, z := range small {
		for _, cursor := range cursors(z) {
			for _, rows := range steps(z.Rows) {
				for _, cols := range steps(z.Cols) {
					does(t, made(t, z, cursor, none, 0), stepping(rows, cols))
				}
			}
		}
	}
}

// P9.2: the chapter's example, and others: up and down, from the first row, one in the middle, and the last one.
func TestFeed(t *testing.T) {
	for _, c := range []struct {
		from walk.Place
		n    int
		want string
		next walk.Place
	}{
		{at(0, 1), 0, "abc/dEf/ghi/", at(0, 1)}, {pending(2, 2), 0, "abc/dEf/ghi/", at(2, 2)},
		{at(0, 1), 1, "abc/dEf/ghi/", at(1, 1)}, {at(0, 1), 2, "abc/dEf/ghi/", at(2, 1)},
		{at(0, 1), 3, "dEf/ghi/   /", at(2, 1)}, {at(0, 1), 5, "   /   /   /", at(2, 1)}, {at(0, 1), 4, "ghi/   /   /", at(2, 1)},
		{at(1, 0), 1, "abc/dEf/ghi/", at(2, 0)}, {at(1, 0), 2, "dEf/ghi/   /", at(2, 0)}, {at(1, 0), 3, "ghi/   /   /", at(2, 0)},
		{at(2, 2), 1, "dEf/ghi/   /", at(2, 2)}, {pending(2, 2), 1, "dEf/ghi/   /", at(2, 2)}, {pending(0, 2), 1, "abc/dEf/ghi/", at(1, 2)},
		{at(2, 1), 3, "   /   /   /", at(2, 1)}, {at(2, 1), 2, "ghi/   /   /", at(2, 1)},
		{at(2, 1), -1, "abc/dEf/ghi/", at(1, 1)}, {at(2, 1), -2, "abc/dEf/ghi/", at(0, 1)}, {at(2, 1), -3, "   /abc/dEf/", at(0, 1)},
		{at(0, 1), -1, "   /abc/dEf/", at(0, 1)}, {pending(0, 2), -1, "   /abc/dEf/", at(0, 2)}, {at(0, 0), -2, "   /   /abc/", at(0, 0)},
		{at(1, 0), -1, "abc/dEf/ghi/", at(0, 0)}, {at(1, 0), -2, "   /abc/dEf/", at(0, 0)}, {at(1, 0), -4, "   /   /   /", at(0, 0)},
		{at(1, 1), math.MaxInt, "   /   /   /", at(2, 1)}, {at(1, 1), math.MinInt, "   /   /   /", at(0, 1)},
		{at(2, 1), math.MaxInt, "   /   /   /", at(2, 1)}, {at(2, 1), math.MinInt, "   /   /   /", at(0, 1)},
		{at(0, 1), math.MaxInt, "   /   /   /", at(2, 1)}, {at(0, 1), math.MinInt, "   /   /   /", at(0, 1)},
	} {
		s := board(t, c.from, "abc", "dEf", "ghi")
		s.Feed(c.n)
		is(t, "Feed", s, c.want, c.next)
	}
	s := board(t, at(1, 1), "abc", "d  ")
	s.Feed(1)
	is(t, "the example", s, "d  /   /", at(1, 1))
	if c, _ := s.At(pos(1, 0)); c != blank {
		t.Errorf("Feed fills with %v", c)
	}
}

// P9.2: of each small size, and of greater ones, from everywhere, by each number.
func TestFeedFromAnywhere(t *testing.T) {
	for _, z := range append([]api.Size{size(5, 2)}, small...) {
		for _, cursor := range cursors(z) {
			for _, n := range steps(z.Rows) {
				does(t, made(t, z, cursor, bits(0b100110), 0), feeding(n), feeding(-1), feeding(n))
			}
		}
	}
	for _, z := range []api.Size{size(24, 8), size(255, 2)} {
		for _, row := range []int{0, z.Rows / 2, z.Rows - 1} {
			for _, n := range append([]int{0, 1, -1, 5, -5, z.Rows - 1, z.Rows, -z.Rows, z.Rows + 1, 2*z.Rows - 2, 2 - 2*z.Rows}, far...) {
				does(t, made(t, z, at(row, 1), none), feeding(n))
				does(t, made(t, z, pending(row, z.Cols-1), none), feeding(n))
			}
		}
	}
}

// P9.5: Feed by n and by -n, away from the edges, turns nothing.
func TestFeedThereAndBack(t *testing.T) {
	for _, z := range append([]api.Size{size(24, 8), size(255, 1)}, small...) {
		s := made(t, z, at(0, 0), none, 0)
		for row := range z.Rows {
			for _, to := range []int{0, row / 2, row, (row + z.Rows) / 2, z.Rows - 1} {
				s.Move(pos(row, z.Cols-1))
				was := plainly(s)
				s.Feed(to - row)
				s.Feed(row - to)
				if !was.same(s) {
					t.Errorf("%v, from %d to %d and back: %v", z, row, to, *plainly(s))
				}
			}
		}
	}
}

// P9.2: by none, ahead and back, beyond the last stop and the first one.
func TestTab(t *testing.T) {
	for _, c := range []struct {
		from walk.Place
		n    int
		want walk.Place
	}{
		{at(0, 0), 1, at(0, 8)}, {at(0, 0), 2, at(0, 16)}, {at(0, 0), 3, at(0, 19)}, {at(0, 0), 4, at(0, 19)}, {at(1, 7), 1, at(1, 8)},
		{at(1, 8), 1, at(1, 16)}, {at(1, 16), 1, at(1, 19)}, {at(1, 19), 1, at(1, 19)}, {at(1, 19), -1, at(1, 16)}, {at(1, 16), -1, at(1, 8)},
		{at(1, 19), -2, at(1, 8)}, {at(1, 19), -3, at(1, 0)}, {at(1, 8), -1, at(1, 0)}, {at(1, 0), -1, at(1, 0)}, {at(0, 9), -1, at(0, 8)},
		{at(0, 5), 0, at(0, 5)}, {pending(0, 19), 0, pending(0, 19)}, {pending(1, 19), 0, pending(1, 19)},
		{pending(0, 19), 1, at(0, 19)}, {pending(1, 19), -1, at(1, 16)}, {pending(1, 19), math.MaxInt, at(1, 19)},
		{at(0, 3), math.MaxInt, at(0, 19)}, {at(1, 17), math.MinInt, at(1, 0)}, {at(0, 0), 1 << 32, at(0, 19)},
	} {
		s := made(t, size(2, 20), c.from, none)
		s.Stops(8)
		was := text(s)
		s.Tab(c.n)
		is(t, "Tab", s, was, c.want)
	}
	for _, stops := range [][]int{nil, {0}, {4}, {0, 4}, {1, 2}, {3}, {0, 1, 2, 3, 4}} {
		for _, cursor := range cursors(size(2, 5)) {
			for _, n := range steps(5) {
				does(t, made(t, size(2, 5), cursor, every, stops...), tabbing(n))
			}
		}
	}
}

// P9.2: columns that are there, and ones that are not; a stop once more, and none once more.
func TestStop(t *testing.T) {
	for _, z := range []api.Size{size(2, 5), size(1, 1), size(2, 255)} {
		for _, stops := range [][]int{nil, {0}, {0, z.Cols - 1}} {
			for _, col := range append(beyond(z.Cols), 0, z.Cols/2, z.Cols-1) {
				for _, on := range []bool{false, true} {
					does(t, made(t, z, pending(0, z.Cols-1), none, stops...), stopping(col, on), stopping(col, on), stopping(col, !on), stopping(col, on))
				}
			}
		}
	}
	s := made(t, size(2, 5), at(0, 0), none)
	for _, col := range []int{3, 1, 4, 1, -1, 5, 0} {
		s.Stop(col, true)
	}
	s.Stop(4, false)
	s.Stop(2, false)
	if !slices.Equal(s.Listed(), []int{0, 1, 3}) {
		t.Error(s.Listed())
	}
}

// P9.2: every so many, none of 0, and nothing is turned of a number below 0.
func TestStops(t *testing.T) {
	for _, c := range []struct {
		n    int
		want []int
	}{
		{8, []int{8, 16}}, {10, []int{10}}, {1, []int{1, 2, 3, 4, 5, 6, 7, 8, 9, 10, 11, 12, 13, 14, 15, 16, 17, 18, 19}}, {19, []int{19}}, {20, nil}, {0, nil},
		{-1, []int{0, 3}}, {-8, []int{0, 3}}, {math.MinInt, []int{0, 3}}, {math.MaxInt, nil}, {1<<32 + 8, nil},
	} {
		s := made(t, size(2, 20), pending(1, 19), none, 0, 3)
		was := text(s)
		s.Stops(c.n)
		is(t, "Stops", s, was, pending(1, 19))
		if !slices.Equal(s.Listed(), c.want) {
			t.Errorf("Stops(%d): %v", c.n, s.Listed())
		}
	}
	for _, z := range []api.Size{size(1, 1), size(2, 5), size(2, 255)} {
		for _, n := range steps(z.Cols) {
			does(t, made(t, z, at(0, 0), none, 0, z.Cols-1), stopsEvery(n), stopsEvery(3), stopsEvery(n))
		}
	}
}

// P9.3: on from the cursor's place and back, round the edges; the cursor is not Pending then; nothing is turned, where all cells are guarded.
func TestFree(t *testing.T) {
	for _, c := range []struct {
		rows       []string
		from       walk.Place
		next, back walk.Place
		ok         bool
	}{
		{[]string{"abc", "def"}, at(0, 1), at(0, 1), at(0, 1), true},
		{[]string{"abc", "def"}, pending(1, 2), at(1, 2), at(1, 2), true},
		{[]string{"aBc", "def"}, at(0, 1), at(0, 2), at(0, 0), true},
		{[]string{"abC", "Def"}, pending(0, 2), at(1, 1), at(0, 1), true},
		{[]string{"Abc", "def"}, at(0, 0), at(0, 1), at(1, 2), true},
		{[]string{"abc", "deF"}, pending(1, 2), at(0, 0), at(1, 1), true},
		{[]string{"ABC", "DeF"}, at(0, 0), at(1, 1), at(1, 1), true},
		{[]string{"ABC", "DeF"}, pending(1, 2), at(1, 1), at(1, 1), true},
		{[]string{"ABC", "DEF"}, at(0, 1), at(0, 1), at(0, 1), false},
		{[]string{"ABC", "DEF"}, pending(0, 2), pending(0, 2), pending(0, 2), false},
		{[]string{"A"}, at(0, 0), at(0, 0), at(0, 0), false},
	} {
		for _, back := range []bool{false, true} {
			s := board(t, c.from, c.rows...)
			was, want := text(s), c.next
			if back {
				want = c.back
			}
			if ok := s.Free(back); ok != c.ok {
				t.Errorf("Free(%v) of %v: %v", back, c.rows, ok)
			}
			is(t, "Free", s, was, want)
		}
	}
}

// P9.3: whichever cells are guarded, from everywhere, once and once more.
func TestFreeOfAnyCells(t *testing.T) {
	for _, z := range small {
		for number := range 1 << (z.Rows * z.Cols) {
			for _, cursor := range cursors(z) {
				for _, back := range []bool{false, true} {
					does(t, made(t, z, cursor, bits(number), 0), freeing(back), freeing(!back))
				}
			}
		}
	}
	for _, guarded := range []func(int) bool{none, every, func(n int) bool { return n != 1000 }, func(n int) bool { return n%7 != 3 }} {
		for _, cursor := range []walk.Place{at(0, 0), at(12, 40), pending(23, 79)} {
			does(t, made(t, size(24, 80), cursor, guarded), freeing(false), freeing(true))
		}
	}
}
