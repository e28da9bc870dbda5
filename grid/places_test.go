package grid_test

import (
	"slices"
	"testing"

	"vizard/api"
	"vizard/grid"
)

// P1.1
func TestWhichSizesMayBe(t *testing.T) {
	l := append([]int{-2, -1, 0, 1, 2, 24, 80, 254, 255}, far...)
	for _, rows := range l {
		for _, cols := range l {
			want := api.ErrSize
			if rows >= 1 && rows <= 255 && cols >= 1 && cols <= 255 {
				want = api.OK
			}
			s := size(rows, cols)
			if e := grid.May(s); e != want {
				t.Errorf("May(%v): %d, want %d", s, int(e), int(want))
			}
			g, e := grid.New(s, "x")
			if e != want || (g == nil) != (want != api.OK) {
				t.Errorf("New(%v): %v, %d, want %d", s, g != nil, int(e), int(want))
			}
		}
	}
}

// P1.1
func TestNewIsFilled(t *testing.T) {
	for _, s := range []api.Size{size(1, 1), size(1, 255), size(255, 1), size(255, 255), size(2, 3)} {
		g, _ := grid.New(s, 'x')
		if g.Size() != s {
			t.Errorf("size %v, want %v", g.Size(), s)
		}
		n := 0
		for p, x := range g.All() {
			n++
			if x != 'x' {
				t.Fatalf("%v at %v: %v", s, p, x)
			}
		}
		if n != s.Rows*s.Cols {
			t.Errorf("%v: %d places", s, n)
		}
	}
}

// P1.1, P1.4
func TestSetTurnsOnePlace(t *testing.T) {
	for r := range 3 {
		for c := range 4 {
			g := counted(t, 3, 4)
			want := numbers(3, 4)
			want[r][c] = -7
			if e := g.Set(pos(r, c), -7); e != api.OK {
				t.Errorf("Set: %d", int(e))
			}
			expect(t, g, want, "Set", r, c)
		}
	}
}

// P1.1
func TestPlacesThatAreNotThere(t *testing.T) {
	g := counted(t, 3, 4)
	l := []api.Pos{pos(-1, 0), pos(0, -1), pos(3, 0), pos(0, 4), pos(3, 4), pos(-1, 4), pos(3, -1), pos(1, 5), pos(4, 1)}
	for _, n := range far {
		l = append(l, pos(n, 0), pos(0, n), pos(n, n))
	}
	for _, p := range l {
		x, e := g.At(p)
		if x != 0 {
			t.Errorf("At(%v): %d beside an error", p, x)
		}
		refused(t, g, e, api.ErrRange, "At", p)
		refused(t, g, g.Set(p, 9), api.ErrRange, "Set", p)
		refused(t, g, g.Fill(p, pos(2, 3), 9), api.ErrRange, "Fill from", p)
		refused(t, g, g.Fill(pos(0, 0), p, 9), api.ErrRange, "Fill to", p)
		// ErrRange is named ahead of ErrArg.
		refused(t, g, g.Fill(pos(2, 3), p, 9), api.ErrRange, "Fill back to", p)
		refused(t, g, g.Fill(p, pos(0, 0), 9), api.ErrRange, "Fill back from", p)
		refused(t, g, g.Fill(p, p, 9), api.ErrRange, "Fill at", p)
	}
}

// P1.1, P1.4
func TestFillFromEveryPlaceToEveryPlace(t *testing.T) {
	for i := range 12 {
		for j := range 12 {
			g := counted(t, 3, 4)
			e := g.Fill(pos(i/4, i%4), pos(j/4, j%4), 0)
			if j < i {
				refused(t, g, e, api.ErrArg, "Fill", i, j)
				continue
			}
			want := numbers(3, 4)
			for k := i; k <= j; k++ {
				want[k/4][k%4] = 0
			}
			if e != api.OK {
				t.Errorf("Fill %d to %d: %d", i, j, int(e))
			}
			expect(t, g, want, "Fill", i, j)
		}
	}
}

// P1.1: things of any kind that can be compared.
func TestThingsOfOtherKinds(t *testing.T) {
	blank := api.Cell{Glyph: ' '}
	mark := api.Cell{Glyph: 'x', Attr: api.Bold, Guard: true, Mark: 3}
	g, _ := grid.New(size(2, 2), blank)
	g.Set(pos(1, 0), mark)
	g.Roll(0, 1, 1, blank)
	g.Slide(0, 0, 1, -1, blank)
	want := [][]api.Cell{{blank, mark}, {blank, blank}}
	if !slices.EqualFunc(g.Rows(), want, slices.Equal[[]api.Cell]) {
		t.Errorf("cells %v", g.Rows())
	}
	n, _ := grid.New(size(2, 2), struct{}{})
	if n.Roll(0, 1, 1, struct{}{}) != api.OK || !n.Same(n.Copy()) {
		t.Error("things without bytes")
	}
	a, e := grid.New[any](size(1, 2), nil)
	if x, f := a.At(pos(0, 1)); e != api.OK || f != api.OK || x != nil {
		t.Errorf("nil things: %v %d %d", x, int(e), int(f))
	}
}
