// Package grid is layer 1: see shared/doc/01-grid.md.
package grid

import (
	"iter"
	"slices"

	"vizard/api"
)

// Grid is rows of things, all of them as long.
type Grid[T comparable] struct {
	size   api.Size
	things []T // row by row, so that whole rows move as one run
}

// May is what is wrong with a size.
func May(s api.Size) api.Errno {
	if s.Rows < 1 || s.Rows > api.MaxRows || s.Cols < 1 || s.Cols > api.MaxCols {
		return api.ErrSize
	}
	return api.OK
}

// New is one of a size, the same thing everywhere.
func New[T comparable](s api.Size, fill T) (*Grid[T], api.Errno) {
	if e := May(s); e != api.OK {
		return nil, e
	}
	g := &Grid[T]{size: s, things: make([]T, s.Rows*s.Cols)}
	paint(g.things, fill)
	return g, api.OK
}

// Size is how many rows and columns there are.
func (g *Grid[T]) Size() api.Size {
	if g == nil {
		return api.Size{}
	}
	return g.size
}

// At is the thing at a place.
func (g *Grid[T]) At(p api.Pos) (x T, e api.Errno) {
	if e := g.check(p); e != api.OK {
		return x, e
	}
	return g.things[g.index(p)], api.OK
}

// Set puts a thing to a place.
func (g *Grid[T]) Set(p api.Pos, x T) api.Errno {
	if e := g.check(p); e != api.OK {
		return e
	}
	g.things[g.index(p)] = x
	return api.OK
}

// Fill puts a thing to all places from one to another one, row by row.
func (g *Grid[T]) Fill(from, to api.Pos, x T) api.Errno {
	run, e := g.run(from, to)
	if e != api.OK {
		return e
	}
	paint(run, x)
	return api.OK
}

// Roll moves rows up, or down, and fills what is left.
func (g *Grid[T]) Roll(top, bottom, n int, fill T) api.Errno {
	run, e := g.run(api.Pos{Row: top}, api.Pos{Row: bottom, Col: g.Size().Cols - 1})
	if e != api.OK {
		return e
	}
	// Bounded ahead of the product, which a great n would let overflow.
	move(run, bound(n, bottom-top+1)*g.size.Cols, fill)
	return api.OK
}

// Slide moves what stands in a row to the left, or to the right, and fills what is left.
func (g *Grid[T]) Slide(row, from, to, n int, fill T) api.Errno {
	run, e := g.run(api.Pos{Row: row, Col: from}, api.Pos{Row: row, Col: to})
	if e != api.OK {
		return e
	}
	move(run, bound(n, len(run)), fill)
	return api.OK
}

// Resize keeps what has room, and fills the rest.
func (g *Grid[T]) Resize(s api.Size, fill T) api.Errno {
	if g == nil {
		return api.ErrNil
	}
	next, e := New(s, fill)
	if e != api.OK {
		return e
	}
	for p, x := range g.All() {
		next.Set(p, x) // refuses the places that are no more
	}
	*g = *next
	return api.OK
}

// All goes through all places, row by row.
func (g *Grid[T]) All() iter.Seq2[api.Pos, T] {
	return func(yield func(api.Pos, T) bool) {
		var p api.Pos
		// The grid is asked anew at each place: a loop over All may turn it, its size too.
		for x, e := g.At(p); e == api.OK; x, e = g.At(p) {
			if !yield(p, x) {
				return
			}
			p.Col++
			if p.Col >= g.size.Cols {
				p = api.Pos{Row: p.Row + 1}
			}
		}
	}
}

// Rows is all rows.
func (g *Grid[T]) Rows() [][]T {
	if g == nil {
		return nil
	}
	rows := make([][]T, g.size.Rows)
	for i := range rows {
		first := g.index(api.Pos{Row: i})
		rows[i] = slices.Clone(g.things[first : first+g.size.Cols])
	}
	return rows
}

// Copy is a grid of its own that is the same.
func (g *Grid[T]) Copy() *Grid[T] {
	if g == nil {
		return nil
	}
	return &Grid[T]{size: g.size, things: slices.Clone(g.things)}
}

// Same tells whether another one is the same.
func (g *Grid[T]) Same(h *Grid[T]) bool {
	if g == nil || h == nil {
		return g == nil && h == nil
	}
	return g.size == h.size && alike(g, h)
}

// alike tells whether two grids of one size have the same things.
func alike[T comparable](g, h *Grid[T]) (same bool) {
	// Where T is an interface, == panics at things that can't be compared: they are not the same.
	defer func() {
		if recover() != nil {
			same = false
		}
	}()
	for p, x := range g.All() {
		if x != h.things[h.index(p)] {
			return false
		}
	}
	return true
}

// check is why there is nothing at a place.
func (g *Grid[T]) check(p api.Pos) api.Errno {
	if g == nil {
		return api.ErrNil
	}
	if p.Row < 0 || p.Row >= g.size.Rows || p.Col < 0 || p.Col >= g.size.Cols {
		return api.ErrRange
	}
	return api.OK
}

// index is how many places are ahead of one that is there.
func (g *Grid[T]) index(p api.Pos) int { return p.Row*g.size.Cols + p.Col }

// run is the grid's own things from one place to another one, row by row.
func (g *Grid[T]) run(from, to api.Pos) ([]T, api.Errno) {
	for _, p := range [2]api.Pos{from, to} {
		if e := g.check(p); e != api.OK {
			return nil, e
		}
	}
	first, last := g.index(from), g.index(to)
	if last < first {
		return nil, api.ErrArg
	}
	return g.things[first : last+1], api.OK
}

// bound is the number nearest to n that is from -most to most.
func bound(n, most int) int { return max(-most, min(n, most)) }

// move lets each thing of a run be the one that stood n behind it, or fill where that is none.
// n is not beyond the run's length, to either side.
func move[T any](run []T, n int, fill T) {
	if n < 0 {
		copy(run[-n:], run)
		paint(run[:-n], fill)
		return
	}
	copy(run, run[n:])
	paint(run[len(run)-n:], fill)
}

// paint lets all things of a run be x.
func paint[T any](run []T, x T) {
	for i := range run {
		run[i] = x
	}
}
