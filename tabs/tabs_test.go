package tabs_test

import (
	"fmt"
	"math"
	"slices"
	"testing"

	"vizard/api"
	"vizard/tabs"
)

// P5.1
func TestNew(t *testing.T) {
	for _, cols := range badCols {
		if x, e := tabs.New(cols); x != nil || e != api.ErrSize {
			t.Errorf("New(%d): %v, %d", cols, x, int(e))
		}
	}
	for cols := 1; cols <= 255; cols++ {
		is(t, "New", none(t, cols), cols)
	}
}

// P5.1
func TestPut(t *testing.T) {
	x := none(t, 20)
	for _, c := range []struct {
		on   bool
		cols []int
		want []int
	}{
		{true, nil, nil}, {false, nil, nil},
		{true, []int{8}, []int{8}}, {true, []int{8}, []int{8}}, {true, nil, []int{8}}, {false, nil, []int{8}},
		{true, []int{19, 3, 0}, []int{0, 3, 8, 19}}, {true, []int{5, 5, 8, 5}, []int{0, 3, 5, 8, 19}},
		{false, []int{4}, []int{0, 3, 5, 8, 19}}, {false, []int{8}, []int{0, 3, 5, 19}}, {false, []int{8}, []int{0, 3, 5, 19}},
		{false, []int{5, 5}, []int{0, 3, 19}}, {false, []int{19, 7, 0}, []int{3}}, {false, []int{3}, nil}, {false, []int{3, 0, 19}, nil},
	} {
		what := fmt.Sprintf("Put(%v, %v)", c.on, c.cols)
		says(t, what, x.Put(c.on, c.cols...), api.OK)
		is(t, what, x, 20, c.want...)
	}
}

// P5.1: each column alone, of as many as may be.
func TestPutEachColumn(t *testing.T) {
	for _, cols := range []int{1, 2, 80, 255} {
		x := none(t, cols)
		for col := range cols {
			says(t, "Put on", x.Put(true, col), api.OK)
			is(t, "Put on", x, cols, col)
			says(t, "Put off", x.Put(false, col), api.OK)
			is(t, "Put off", x, cols)
		}
	}
}

// P5.1: nothing is done where one column is not there, wherever it stands among the others.
func TestPutBeyond(t *testing.T) {
	for _, l := range []layout{{1, nil}, {1, []int{0}}, {20, []int{0, 3, 16}}, {255, []int{254}}} {
		x := with(t, l)
		for _, bad := range append([]int{-1, -2, -l.cols, l.cols, l.cols + 1, 255, 256, 256 + l.cols}, far...) {
			last := l.cols - 1
			for _, cols := range [][]int{{bad}, {bad, bad}, {0, bad}, {bad, 0}, {last, bad, 0}, {0, last, bad}, {bad, 0, last}} {
				for _, on := range []bool{true, false} {
					what := fmt.Sprintf("Put(%v, %v) of %d columns", on, cols, l.cols)
					says(t, what, x.Put(on, cols...), api.ErrRange)
					is(t, what, x, l.cols, l.stops...)
				}
			}
		}
	}
}

// R2: what is handed in is not written into, nor what stands behind it, and it is not kept.
func TestPutLeavesColumns(t *testing.T) {
	x := none(t, 20)
	cols := []int{9, 4, 9, 1, 7, 5}
	want := slices.Clone(cols)
	for _, on := range []bool{true, false, true} {
		says(t, "Put", x.Put(on, cols[:4]...), api.OK)
		says(t, "Put", x.Put(on, append(cols[:4:4], -1)...), api.ErrRange)
		if !slices.Equal(cols, want) {
			t.Fatalf("Put(%v) wrote into its columns: %v", on, cols)
		}
	}
	cols[0], cols[1] = 2, 3
	is(t, "Put", x, 20, 1, 4, 9)
}

// P5.1
func TestEvery(t *testing.T) {
	for _, l := range layouts() {
		for _, n := range append([]int{0, 1, 2, 3, 7, 8, l.cols / 2, l.cols - 1, l.cols, l.cols + 1, 254, 255, 256}, far...) {
			if n < 0 {
				continue
			}
			var want []int
			for col := 1; col < l.cols && n > 0; col++ {
				if col%n == 0 {
					want = append(want, col)
				}
			}
			x, what := with(t, l), fmt.Sprintf("Every(%d) of %v", n, l)
			says(t, what, x.Every(n), api.OK)
			is(t, what, x, l.cols, want...)
		}
	}
}

// P5.1: a number below 0 leaves the stops that there are.
func TestEveryBelow(t *testing.T) {
	for _, l := range layouts() {
		x := with(t, l)
		for _, n := range []int{-1, -2, -8, -l.cols, -256, -1 << 32, -1<<32 + 8, math.MinInt + 1, math.MinInt} {
			what := fmt.Sprintf("Every(%d) of %v", n, l)
			says(t, what, x.Every(n), api.ErrArg)
			is(t, what, x, l.cols, l.stops...)
		}
	}
}

// P5.1: stops are put and taken among those of Every, and Every of another number forgets them.
func TestEveryAndPut(t *testing.T) {
	x := none(t, 20)
	says(t, "Every(8)", x.Every(8), api.OK)
	is(t, "Every(8)", x, 20, 8, 16)
	says(t, "Put on", x.Put(true, 0, 9), api.OK)
	says(t, "Put off", x.Put(false, 16), api.OK)
	is(t, "Put", x, 20, 0, 8, 9)
	says(t, "Every(5)", x.Every(5), api.OK)
	is(t, "Every(5)", x, 20, 5, 10, 15)
	says(t, "Every(0)", x.Every(0), api.OK)
	is(t, "Every(0)", x, 20)
	says(t, "Put on", x.Put(true, 7), api.OK)
	is(t, "Put on behind Every(0)", x, 20, 7)
}

// P5.1, R2: List is the caller's own, and a new one each time.
func TestListIsTheCallers(t *testing.T) {
	for _, l := range layouts() {
		x := with(t, l)
		first, second := x.List(), x.List()
		for i := range first {
			first[i] = -7
		}
		_ = append(first[:0], -9)
		if !slices.Equal(second, l.stops) {
			t.Errorf("two lists of %v share memory: %v", l, second)
		}
		is(t, "List that is written into", x, l.cols, l.stops...)
		says(t, "Every(0)", x.Every(0), api.OK)
		if !slices.Equal(second, l.stops) {
			t.Errorf("Every(0) of %v wrote into a list: %v", l, second)
		}
	}
}

// P5.1, R3: List rises, in whatever order the stops came.
func TestListRises(t *testing.T) {
	x, want := none(t, 255), []int(nil)
	for i := range 255 {
		says(t, "Put", x.Put(true, i*101%255), api.OK)
		want = append(want, i)
	}
	is(t, "Put of all", x, 255, want...)
}

// P5.2: the examples of the chapter, and others by hand.
func TestNextPrevGo(t *testing.T) {
	x := none(t, 20)
	says(t, "Every(8)", x.Every(8), api.OK)
	for _, c := range []struct{ col, next, prev int }{
		{8, 16, 0}, {16, 19, 8}, {0, 8, 0}, {7, 8, 0}, {9, 16, 8}, {15, 16, 8}, {17, 19, 16}, {18, 19, 16}, {19, 19, 16},
		{-1, 8, 0}, {20, 19, 16}, {99, 19, 16}, {math.MaxInt, 19, 16}, {math.MinInt, 8, 0},
	} {
		if next, prev := x.Next(c.col), x.Prev(c.col); next != c.next || prev != c.prev {
			t.Errorf("Next(%d), Prev(%d): %d, %d, not %d, %d", c.col, c.col, next, prev, c.next, c.prev)
		}
	}
	for _, c := range []struct{ col, n, want int }{
		{0, 2, 16}, {0, 1, 8}, {0, 3, 19}, {0, 4, 19}, {0, math.MaxInt, 19}, {3, 0, 3}, {0, 0, 0}, {19, 0, 19}, {8, 0, 8},
		{-1, 0, 0}, {20, 0, 19}, {math.MinInt, 0, 0}, {math.MaxInt, 0, 19}, {19, -1, 16}, {19, -2, 8}, {19, -3, 0}, {19, -4, 0},
		{16, -1, 8}, {17, -1, 16}, {8, -1, 0}, {19, math.MinInt, 0}, {math.MaxInt, math.MaxInt, 19}, {math.MinInt, math.MinInt, 0},
		{math.MaxInt, math.MinInt, 0}, {math.MinInt, math.MaxInt, 19}, {math.MaxInt, -1, 16}, {math.MaxInt, -2, 8},
		{math.MinInt, 1, 8}, {math.MinInt, 2, 16}, {math.MaxInt, 1, 19}, {math.MinInt, -1, 0}, {-4, 1, 8}, {44, -2, 8},
	} {
		if got := x.Go(c.col, c.n); got != c.want {
			t.Errorf("Go(%d, %d): %d, not %d", c.col, c.n, got, c.want)
		}
	}
}

// P5.2: from each column, and from ones that are not there.
func TestNextPrevOfEachColumn(t *testing.T) {
	for _, l := range layouts() {
		x := with(t, l)
		for _, col := range some(l.cols) {
			if got, want := x.Next(col), l.next(col); got != want {
				t.Errorf("Next(%d) of %v: %d, not %d", col, l, got, want)
			}
			if got, want := x.Prev(col), l.prev(col); got != want {
				t.Errorf("Prev(%d) of %v: %d, not %d", col, l, got, want)
			}
		}
		is(t, "Next and Prev turn nothing", x, l.cols, l.stops...)
	}
}

// P5.2: Go is as many of Next, or of Prev, as are asked for.
func TestGoIsNextOrPrev(t *testing.T) {
	for _, l := range layouts() {
		x := with(t, l)
		for _, col := range few(l.cols) {
			for _, n := range []int{1, 2, 3, l.cols - 1, l.cols, l.cols + 1, 254, 255, 256, 1 << 32, 1<<32 + 1, math.MaxInt} {
				if got, want := x.Go(col, n), from(l.next, col, n); n > 0 && got != want {
					t.Errorf("Go(%d, %d) of %v: %d, not %d", col, n, l, got, want)
				}
				if got, want := x.Go(col, -n), from(l.prev, col, n); n > 0 && got != want {
					t.Errorf("Go(%d, %d) of %v: %d, not %d", col, -n, l, got, want)
				}
			}
			if got, want := x.Go(col, math.MinInt), from(l.prev, col, math.MaxInt); got != want {
				t.Errorf("Go(%d, the smallest) of %v: %d, not %d", col, l, got, want)
			}
			if got, want := x.Go(col, 0), max(0, min(col, l.cols-1)); got != want {
				t.Errorf("Go(%d, 0) of %v: %d, not %d", col, l, got, want)
			}
		}
		is(t, "Go turns nothing", x, l.cols, l.stops...)
	}
}

// P5.3
func TestResize(t *testing.T) {
	for _, l := range layouts() {
		for cols := 1; cols <= 255; cols++ {
			left := layout{cols, nil}
			for _, stop := range l.stops {
				if stop < cols {
					left.stops = append(left.stops, stop)
				}
			}
			x, what := with(t, l), fmt.Sprintf("Resize(%d) of %v", cols, l)
			says(t, what, x.Resize(cols), api.OK)
			is(t, what, x, cols, left.stops...)
			if got, want := x.Next(cols-2), cols-1; got != want {
				t.Errorf("%s: Next(%d) is %d", what, cols-2, got)
			}
			// What had no room does not come back.
			says(t, what, x.Resize(255), api.OK)
			is(t, what+", and to 255", x, 255, left.stops...)
		}
	}
}

// P5.3: columns that came are there for all calls, and those that went for none.
func TestResizeThenPut(t *testing.T) {
	x := with(t, layout{5, []int{2, 4}})
	says(t, "Put(5) of 5 columns", x.Put(true, 5), api.ErrRange)
	says(t, "Resize(9)", x.Resize(9), api.OK)
	says(t, "Put(5, 8) of 9 columns", x.Put(true, 5, 8), api.OK)
	is(t, "more columns", x, 9, 2, 4, 5, 8)
	says(t, "Resize(4)", x.Resize(4), api.OK)
	says(t, "Put(4) of 4 columns", x.Put(false, 4), api.ErrRange)
	says(t, "Put(3) of 4 columns", x.Put(true, 3), api.OK)
	is(t, "fewer columns", x, 4, 2, 3)
	says(t, "Resize(8)", x.Resize(8), api.OK)
	says(t, "Every(3)", x.Every(3), api.OK)
	is(t, "Every of 8 columns", x, 8, 3, 6)
}

// P5.3: a number of columns that may not be turns nothing.
func TestResizeThatMayNotBe(t *testing.T) {
	for _, l := range layouts() {
		x := with(t, l)
		for _, cols := range badCols {
			what := fmt.Sprintf("Resize(%d) of %v", cols, l)
			says(t, what, x.Resize(cols), api.ErrSize)
			is(t, what, x, l.cols, l.stops...)
		}
	}
}

// P5.3: each of a copy and of what it was made of goes its own way.
func TestCopy(t *testing.T) {
	turns := map[string]func(*tabs.Tabs) api.Errno{
		"Put on":  func(x *tabs.Tabs) api.Errno { return x.Put(true, 1) },
		"Put off": func(x *tabs.Tabs) api.Errno { return x.Put(false, 3) },
		"Every":   func(x *tabs.Tabs) api.Errno { return x.Every(4) },
		"clear":   func(x *tabs.Tabs) api.Errno { return x.Every(0) },
		"less":    func(x *tabs.Tabs) api.Errno { return x.Resize(4) },
		"more":    func(x *tabs.Tabs) api.Errno { return x.Resize(255) },
	}
	for what, turn := range turns {
		x := with(t, layout{20, []int{0, 3, 16}})
		c := x.Copy()
		if c == nil || c == x {
			t.Fatalf("Copy is none of its own: %p, %p", x, c)
		}
		is(t, "Copy", c, 20, 0, 3, 16)
		says(t, what, turn(x), api.OK)
		is(t, what+" of what was copied", c, 20, 0, 3, 16)
		second := c.Copy()
		says(t, what, turn(second), api.OK)
		is(t, what+" of the copy", c, 20, 0, 3, 16)
		is(t, what+" of both", second, x.Cols(), x.List()...)
	}
	for _, l := range layouts() {
		c := with(t, l).Copy()
		is(t, "Copy", c, l.cols, l.stops...)
		says(t, "Put on a copy", c.Put(true, 0), api.OK)
		if list := c.List(); len(list) == 0 || list[0] != 0 {
			t.Errorf("Copy of %v takes no stop: %v", l, list)
		}
	}
}

// P5.3, the sentence in brackets: of nil ErrNil, nothing, 0. R1: ErrNil is named ahead of the other errors.
func TestNil(t *testing.T) {
	var x *tabs.Tabs
	if c := x.Copy(); c != nil {
		t.Errorf("Copy of nil: %v", c)
	}
	is(t, "nil", x, 0)
	for _, on := range []bool{true, false} {
		says(t, "Put of nil", x.Put(on), api.ErrNil)
		says(t, "Put of nil", x.Put(on, 0), api.ErrNil)
		says(t, "Put of nil", x.Put(on, -1, 255, math.MaxInt), api.ErrNil)
	}
	for _, n := range append([]int{0, 1, -1, 8, 20, 255, 256}, far...) {
		says(t, "Every of nil", x.Every(n), api.ErrNil)
		says(t, "Resize of nil", x.Resize(n), api.ErrNil)
		if next, prev := x.Next(n), x.Prev(n); next != 0 || prev != 0 {
			t.Errorf("Next and Prev of nil, from %d: %d, %d", n, next, prev)
		}
		for _, steps := range append([]int{0, 1, -1}, far...) {
			if got := x.Go(n, steps); got != 0 {
				t.Errorf("Go(%d, %d) of nil: %d", n, steps, got)
			}
		}
	}
}

// P5.4: Next and Prev are always there, and so is where Go leads.
func TestAlwaysThere(t *testing.T) {
	for _, l := range layouts() {
		x := with(t, l)
		for _, col := range some(l.cols) {
			for _, got := range []int{x.Next(col), x.Prev(col), x.Go(col, 0), x.Go(col, 2), x.Go(col, -2)} {
				if !there(l.cols, got) {
					t.Errorf("from %d of %v: %d", col, l, got)
				}
			}
		}
	}
}

// P5.4: of two columns Next of the greater one is no less.
func TestNextRises(t *testing.T) {
	for _, l := range layouts() {
		x, cols := with(t, l), some(l.cols)
		slices.Sort(cols)
		for i, col := range cols[1:] {
			if less, more := x.Next(cols[i]), x.Next(col); less > more {
				t.Errorf("of %v Next(%d) is %d, and Next(%d) is %d", l, cols[i], less, col, more)
			}
		}
	}
}

// P5.4: from a stop Next and Prev lead back to it, over another stop.
func TestThereAndBack(t *testing.T) {
	for _, l := range layouts() {
		x := with(t, l)
		for i, stop := range l.stops {
			if i+1 < len(l.stops) && x.Prev(x.Next(stop)) != stop {
				t.Errorf("of %v from %d to %d and back to %d", l, stop, x.Next(stop), x.Prev(x.Next(stop)))
			}
			if i > 0 && x.Next(x.Prev(stop)) != stop {
				t.Errorf("of %v from %d back to %d and on to %d", l, stop, x.Prev(stop), x.Next(x.Prev(stop)))
			}
		}
	}
}
