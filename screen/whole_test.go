package screen_test

import (
	"math"
	"slices"
	"testing"

	"vizard/api"
	"vizard/screen"
	"vizard/walk"
	"vizard/wipe"
)

// some is calls of each kind, for a screen of about that size: ones that turn much, little, nothing, and ones that have an error.
func some(z api.Size) []act {
	all := []act{
		moving(pos(z.Rows/2, z.Cols/2)), moving(pos(-1, z.Cols)), moving(pos(z.Rows, -1)), moving(pos(math.MaxInt, math.MaxInt)),
		stepping(1, 1), stepping(-1, 0), stepping(0, 0), stepping(0, -1), stepping(math.MinInt, math.MaxInt),
		feeding(0), feeding(1), feeding(-1), feeding(z.Rows), feeding(math.MinInt), feeding(math.MaxInt),
		tabbing(0), tabbing(1), tabbing(-1), tabbing(2), tabbing(math.MinInt),
		stopping(0, true), stopping(z.Cols/2, true), stopping(z.Cols-1, false), stopping(z.Cols, true), stopping(-1, false),
		stopsEvery(2), stopsEvery(0), stopsEvery(-1), stopsEvery(8),
		freeing(false), freeing(true),
		setting(pos(0, 0), lock), setting(pos(z.Rows/2, z.Cols/2), lock), setting(pos(0, z.Cols), dot), setting(pos(z.Rows-1, z.Cols-1), dot),
		resizing(z), resizing(api.Size{}), resizing(size(z.Rows+1, z.Cols)), resizing(size(z.Rows, z.Cols+1)), resizing(size(1, 2)), resizing(size(256, 1)),
	}
	for _, guard := range []bool{false, true} {
		for _, wrap := range []int{walk.Clamp, walk.Auto, walk.Pend, 0} {
			all = append(all, putting(glyph('x'), wrap, guard), putting(glyph('y'), wrap, guard))
		}
		all = append(all, putting(lock, walk.Auto, guard))
		for _, part := range []int{wipe.ToEnd, wipe.ToStart, wipe.Line, wipe.LineEnd, wipe.LineStart, 0} {
			all = append(all, parting(part, dot, guard))
		}
		for _, n := range []int{0, 1, -1, 2, math.MinInt} {
			all = append(all, lining(n, blank, guard), charring(n, dot, guard))
		}
		all = append(all, wiping(pos(0, 1), pos(1, 0), dot, guard), wiping(pos(1, 1), pos(0, 0), dot, guard), wiping(pos(-1, -1), pos(0, 99), blank, guard))
		all = append(all, parting(wipe.All, blank, guard), lining(1, lock, guard))
	}
	return all
}

// P9.1 to P9.5: calls of all kinds, many of them one behind the other: each does what it should, and the cursor is always there.
func TestCallsOneBehindTheOther(t *testing.T) {
	for _, z := range append([]api.Size{size(4, 6)}, small...) {
		s := made(t, z, at(0, 0), none)
		acts := some(z)
		seed := uint32(z.Rows*16 + z.Cols)
		for i := range 4000 {
			seed = seed*1664525 + 1013904223
			does(t, s, acts[seed>>8%uint32(len(acts))])
			if p, pends := s.Cursor(); !there(s.Size(), p) || pends && p.Col != s.Size().Cols-1 {
				t.Fatalf("call %d of %v: the cursor is at %v, %v", i, s.Size(), p, pends)
			}
			if i%50 == 49 { // lest all be guarded, or one cell
				s.Resize(z)
				s.Part(wipe.All, blank, false)
			}
		}
	}
}

// P9.5: each pair of calls of a small screen.
func TestPairsOfCalls(t *testing.T) {
	z := size(2, 3)
	for _, cursor := range []walk.Place{at(0, 0), at(1, 1), pending(0, 2), pending(1, 2)} {
		for _, a := range some(z) {
			for _, b := range some(z) {
				does(t, made(t, z, cursor, bits(0b000110), 1), a, b)
			}
		}
	}
}

// P9.5: with guard no cell that is guarded is turned, whatever is called.
func TestGuardedCellsStay(t *testing.T) {
	z := size(2, 3)
	acts := []act{}
	for _, n := range []int{0, 1, -1, 2, 3, -3, math.MaxInt, math.MinInt} {
		acts = append(acts, lining(n, dot, true), charring(n, dot, true), parting(n, dot, true), putting(dot, n, true))
	}
	for _, part := range parts {
		acts = append(acts, parting(part, dot, true))
	}
	acts = append(acts, wiping(pos(-1, -1), pos(9, 9), dot, true), wiping(pos(0, 1), pos(1, 1), dot, true))
	for number := range 1 << 6 {
		for _, cursor := range cursors(z) {
			s := made(t, z, cursor, bits(number))
			was := plainly(s)
			for _, a := range acts {
				a.do(s)
				for n, c := range was.cells {
					if now, _ := s.At(pos(n/3, n%3)); c.Guard && now != c {
						t.Fatalf("%v with %b guarded, from %v: cell %d is %v", a.what, number, cursor, n, now)
					}
				}
			}
		}
	}
}

// P9.3: Wipe, Part, Lines and Chars turn neither where the cursor is, nor whether it is Pending, even if they turn all cells.
func TestDrawsLeaveTheCursor(t *testing.T) {
	for _, z := range small {
		for _, cursor := range cursors(z) {
			for _, guard := range []bool{false, true} {
				for _, n := range append(steps(3), wraps...) {
					s := made(t, z, cursor, bits(0b000010), 0)
					for _, a := range []act{wiping(pos(-n, 0), pos(n, n), dot, guard), parting(n, lock, guard), lining(n, dot, guard), charring(n, lock, guard)} {
						a.do(s)
						if p, pends := s.Cursor(); p != cursor.Pos || pends != cursor.Pending || !slices.Equal(s.Listed(), []int{0}) {
							t.Errorf("%v from %v: %v, %v, %v", a.what, cursor, p, pends, s.Listed())
						}
					}
				}
			}
		}
	}
}

// R3: the same calls on two screens answer and leave the same, whatever is called of another one between.
func TestOneState(t *testing.T) {
	z := size(3, 4)
	a, b, other := made(t, z, at(0, 0), bits(0b100), 2), made(t, z, at(0, 0), bits(0b100), 2), made(t, z, at(1, 1), every)
	acts := some(z)
	for i := range 3 * len(acts) {
		x, y := acts[i*7%len(acts)], acts[i*5%len(acts)]
		got := x.do(a)
		y.do(other)
		if again := x.do(b); got != again || !plainly(a).same(b) {
			t.Fatalf("%v: %v, %v, and %v, %v", x.what, got, *plainly(a), again, *plainly(b))
		}
	}
}

// A screen embeds its cursor's place, whose fields are promoted: they are what Cursor answers.
func TestScreenEmbedsItsCursor(t *testing.T) {
	s, _ := screen.New(size(3, 4))
	s.Move(pos(1, 3))
	s.Put(dot, walk.Pend, false)
	p, pends := s.Cursor()
	if s.Row != 1 || s.Col != 3 || !s.Pending || s.Pos != p || s.Pending != pends || s.Place != pending(1, 3) {
		t.Errorf("%v, and the cursor %v, %v", s.Place, p, pends)
	}
}
