package grid_test

import (
	"slices"
	"testing"

	"vizard/api"
	"vizard/grid"
)

// P1.3
func TestResizeKeepsWhatHasRoom(t *testing.T) {
	for rows := 1; rows <= 5; rows++ {
		for cols := 1; cols <= 6; cols++ {
			g := counted(t, 3, 4)
			var want [][]int
			for r := range rows {
				row := slices.Repeat([]int{-1}, cols)
				if r < 3 {
					copy(row, numbers(3, 4)[r])
				}
				want = append(want, row)
			}
			if e := g.Resize(size(rows, cols), -1); e != api.OK {
				t.Errorf("Resize: %d", int(e))
			}
			expect(t, g, want, "Resize", rows, cols)
		}
	}
}

// P1.3
func TestResizeToTheGreatestAndTheLeast(t *testing.T) {
	g := counted(t, 3, 4)
	if e := g.Resize(size(255, 255), -1); e != api.OK || g.Size() != size(255, 255) {
		t.Errorf("%d, %v", int(e), g.Size())
	}
	for p, x := range g.All() {
		want := -1
		if p.Row < 3 && p.Col < 4 {
			want = p.Row*4 + p.Col + 1
		}
		if x != want {
			t.Fatalf("at %v: %d, want %d", p, x, want)
		}
	}
	g.Resize(size(1, 1), -1)
	expect(t, g, [][]int{{1}}, "Resize to one place")
}

// P1.3
func TestResizeRefuses(t *testing.T) {
	g := counted(t, 3, 4)
	for _, n := range append([]int{-1, 0}, far...) {
		refused(t, g, g.Resize(size(n, 4), 9), api.ErrSize, "Resize rows", n)
		refused(t, g, g.Resize(size(3, n), 9), api.ErrSize, "Resize cols", n)
		refused(t, g, g.Resize(size(n, n), 9), api.ErrSize, "Resize both", n)
	}
}

// P1.4
func TestResizeGreaterAndBack(t *testing.T) {
	for rows := 3; rows <= 6; rows++ {
		for cols := 4; cols <= 7; cols++ {
			g := counted(t, 3, 4)
			g.Resize(size(rows, cols), -1)
			g.Resize(size(3, 4), -2)
			expect(t, g, numbers(3, 4), "Resize and back", rows, cols)
			if !g.Same(counted(t, 3, 4)) {
				t.Errorf("%d, %d: not the same", rows, cols)
			}
		}
	}
}

// P1.3
func TestAllGoesRowByRow(t *testing.T) {
	g := counted(t, 3, 4)
	all := g.All()
	for range 2 { // each loop starts anew
		n := 0
		for p, x := range all {
			if p != pos(n/4, n%4) || x != n+1 {
				t.Errorf("%d: %v, %d", n, p, x)
			}
			n++
		}
		if n != 12 {
			t.Errorf("%d places", n)
		}
	}
}

// P1.3
func TestAllStopsWhenItsLoopDoes(t *testing.T) {
	for most := 1; most <= 12; most++ {
		n := 0
		for range counted(t, 3, 4).All() {
			n++
			if n == most {
				break
			}
		}
		if n != most {
			t.Errorf("%d places, want %d", n, most)
		}
	}
}

// P1.3: things as they are when they are come to.
func TestAllTellsWhatIsThereNow(t *testing.T) {
	g := counted(t, 3, 4)
	all := g.All()
	g.Set(pos(0, 0), 100)
	var got []int
	for p, x := range all {
		got = append(got, x)
		g.Set(p, -1) // is come to no more
		if p == pos(1, 1) {
			g.Set(pos(1, 2), 50)
			g.Set(pos(2, 3), 60)
		}
	}
	if want := []int{100, 2, 3, 4, 5, 6, 50, 8, 9, 10, 11, 60}; !slices.Equal(got, want) {
		t.Errorf("%v, want %v", got, want)
	}
}

// P1.3: places as they are when they are come to.
func TestAllOfAGridThatIsResized(t *testing.T) {
	for i, c := range []struct {
		at   api.Pos
		to   api.Size
		want []int
	}{
		{pos(0, 1), size(1, 4), []int{1, 2, 3, 4}},
		{pos(2, 1), size(2, 4), []int{1, 2, 3, 4, 5, 6, 7, 8, 9, 10}},
		{pos(1, 2), size(3, 2), []int{1, 2, 3, 4, 5, 6, 7, 9, 10}},
		{pos(2, 3), size(1, 1), []int{1, 2, 3, 4, 5, 6, 7, 8, 9, 10, 11, 12}},
		{pos(2, 3), size(4, 5), []int{1, 2, 3, 4, 5, 6, 7, 8, 9, 10, 11, 12, 0, 0, 0, 0, 0, 0}},
		{pos(1, 0), size(2, 6), []int{1, 2, 3, 4, 5, 6, 7, 8, 0, 0}},
	} {
		g := counted(t, 3, 4)
		var got []int
		for p, x := range g.All() {
			got = append(got, x)
			if p == c.at {
				g.Resize(c.to, 0)
			}
		}
		if !slices.Equal(got, c.want) {
			t.Errorf("%d: %v, want %v", i, got, c.want)
		}
	}
}

// P1.3, R2: the rows that are answered are the caller's.
func TestRowsAreTheCallers(t *testing.T) {
	g := counted(t, 3, 4)
	rows := g.Rows()
	_ = append(rows[0], 99)
	_ = append(rows[1], 99)
	if !equal(rows, numbers(3, 4)) {
		t.Errorf("rows share memory: %v", rows)
	}
	for _, row := range rows {
		clear(row)
	}
	expect(t, g, numbers(3, 4), "rows written into")
	kept := g.Rows()
	g.Fill(pos(0, 0), pos(2, 3), 0)
	if !equal(kept, numbers(3, 4)) {
		t.Errorf("rows were turned with the grid: %v", kept)
	}
}

// P1.3
func TestCopyIsAGridOfItsOwn(t *testing.T) {
	g := counted(t, 3, 4)
	c := g.Copy()
	if c == g || !c.Same(g) || !g.Same(c) {
		t.Error("not the same, or not of its own")
	}
	c.Set(pos(0, 0), 99)
	c.Roll(0, 2, 1, 0)
	c.Resize(size(2, 2), 0)
	expect(t, g, numbers(3, 4), "its copy turned")
	d := g.Copy()
	g.Fill(pos(0, 0), pos(2, 3), 0)
	g.Resize(size(1, 1), 0)
	expect(t, d, numbers(3, 4), "what it is a copy of turned")
}

// P1.3
func TestSameHoldsSizeAndThings(t *testing.T) {
	g := counted(t, 3, 4)
	if !g.Same(g) || !g.Same(counted(t, 3, 4)) {
		t.Error("the same is not the same")
	}
	for r := range 3 {
		for c := range 4 {
			h := counted(t, 3, 4)
			h.Set(pos(r, c), 99)
			if g.Same(h) || h.Same(g) {
				t.Errorf("another thing at (%d, %d)", r, c)
			}
		}
	}
	// As many things, in the same order, but of another size.
	for _, h := range []*grid.Grid[int]{counted(t, 4, 3), counted(t, 2, 6), counted(t, 1, 12), counted(t, 12, 1), counted(t, 3, 3), counted(t, 2, 4)} {
		if g.Same(h) || h.Same(g) {
			t.Errorf("another size: %v", h.Size())
		}
	}
}

// R1: things that Go can't compare are not the same, and nothing panics.
func TestSameOfThingsThatCannotBeCompared(t *testing.T) {
	g, _ := grid.New[any](size(2, 2), 1)
	g.Set(pos(1, 0), []int{1})
	h := g.Copy()
	if g.Same(h) || h.Same(g) {
		t.Error("lists are the same")
	}
	g.Set(pos(1, 0), 2)
	h.Set(pos(1, 0), 2)
	if !g.Same(h) {
		t.Error("numbers are not the same")
	}
}

// P1.3, R1: a nil grid, with ErrNil ahead of all other errors.
func TestNilGrid(t *testing.T) {
	var g *grid.Grid[int]
	for _, n := range append([]int{-1, 0, 1}, far...) {
		p := pos(n, n)
		if x, e := g.At(p); x != 0 || e != api.ErrNil {
			t.Errorf("At: %d, %d", x, int(e))
		}
		for name, e := range map[string]api.Errno{
			"Set":    g.Set(p, 9),
			"Fill":   g.Fill(p, pos(0, 0), 9),
			"Roll":   g.Roll(n, 0, n, 9),
			"Slide":  g.Slide(n, n, 0, n, 9),
			"Resize": g.Resize(size(n, n), 9),
		} {
			if e != api.ErrNil {
				t.Errorf("%s by %d: %d", name, n, int(e))
			}
		}
	}
	for p := range g.All() {
		t.Errorf("a place: %v", p)
	}
	if g.Size() != (api.Size{}) || len(g.Rows()) != 0 || g.Copy() != nil {
		t.Errorf("%v, %v", g.Size(), g.Rows())
	}
	h := counted(t, 1, 1)
	if !g.Same(nil) || g.Same(h) || h.Same(nil) || h.Same(g) {
		t.Error("Same")
	}
}
