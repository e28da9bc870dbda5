package sgr_test

import (
	"iter"
	"math"
	"slices"
	"testing"

	"vizard/api"
	"vizard/sgr"
)

// The bits of attributes, written out, so that api's are held against them.
const (
	bold    = 1
	dim     = 2
	under   = 4
	blink   = 8
	reverse = 16
	hidden  = 32
	colour  = 64
	fore    = 256
	back    = 2048
	marks   = 63
	full    = marks + colour + 7*fore + 7*back
)

// plain is attributes, taken apart; the colours of one that is not coloured are 0.
type plain struct {
	marks    [6]bool // Bold, Dim, Under, Blink, Reverse, Hidden
	coloured bool
	fore     int
	back     int
}

// number is the attributes as a number.
func (p plain) number() int {
	a := 0
	for i, on := range p.marks {
		if on {
			a += []int{bold, dim, under, blink, reverse, hidden}[i]
		}
	}
	if p.coloured {
		a += colour + p.fore*fore + p.back*back
	}
	return a
}

// turned is what one number makes of attributes, told by the chapter's words.
func (p plain) turned(n int) plain {
	switch {
	case n == 0:
		return plain{}
	case n >= 30 && n <= 37:
		p = p.painted()
		p.fore = n - 30
	case n >= 40 && n <= 47:
		p = p.painted()
		p.back = n - 40
	case n == 39 && p.coloured:
		p.fore = 7
	case n == 49 && p.coloured:
		p.back = 0
	case n == 22:
		p.marks[0], p.marks[1] = false, false
	}
	for i, one := range []int{1, 2, 4, 5, 7, 8} {
		if n == one {
			p.marks[i] = true
		}
		if n == one+20 && i > 1 {
			p.marks[i] = false
		}
	}
	return p
}

// painted has Colour, and the colours 7 and 0, if it was not there.
func (p plain) painted() plain {
	if !p.coloured {
		p.coloured, p.fore, p.back = true, 7, 0
	}
	return p
}

// made is what numbers make of attributes, one behind the other.
func (p plain) made(l []int) plain {
	if len(l) == 0 {
		return plain{}
	}
	for _, n := range l {
		p = p.turned(n)
	}
	return p
}

// looks is all attributes that may be.
func looks() []plain {
	var all []plain
	for set := range 64 {
		var p plain
		for i := range p.marks {
			p.marks[i] = set>>i&1 == 1
		}
		all = append(all, p)
		p.coloured = true
		for pair := range 64 {
			p.fore, p.back = pair/8, pair%8
			all = append(all, p)
		}
	}
	return all
}

// few is some attributes that may be: with and without Colour, with all other bits, each alone, and none.
func few() []plain {
	var all []plain
	for _, set := range []int{0, 1, 2, 4, 8, 16, 32, 63, 3, 21, 42} {
		var p plain
		for i := range p.marks {
			p.marks[i] = set>>i&1 == 1
		}
		all = append(all, p)
		for _, pair := range [][2]int{{0, 0}, {7, 0}, {0, 7}, {7, 7}, {3, 5}, {6, 1}} {
			all = append(all, plain{p.marks, true, pair[0], pair[1]})
		}
	}
	return all
}

// nots is some attributes that may not be: colours without Colour, bits of nothing, and numbers below 0.
func nots() []int {
	l := []int{
		fore, back, 7 * fore, 7 * back, fore + back, bold + fore, marks + 7*back, marks + 7*fore + 7*back,
		128, 129, 128 + marks, 128 + colour, 128 + full, 1<<14 - 1,
		-1, -2, -64, -128, -256, -full, math.MinInt, math.MinInt + 1, math.MinInt + colour, math.MaxInt, math.MaxInt - 1,
		full + 1<<14, 1 << 32, 1<<32 + bold, 1<<32 + full,
	}
	for bit := 14; bit < 64; bit++ {
		l = append(l, 1<<bit, 1<<bit|full, 1<<bit|bold, 1<<bit|colour)
	}
	return l
}

// numbers is every number that may do something, those around, and some far off.
func numbers() []int {
	l := []int{
		math.MinInt, math.MinInt + 1, math.MaxInt, math.MaxInt - 1, -31, -1000, 255, 256, 256 + 1, 256 + 31, 9999, 10000,
		1 << 31, 1<<31 + 1, 1 << 32, 1<<32 + 1, 1<<32 + 31, 1<<32 + 49, -1 << 32, -1<<32 + 1,
	}
	for n := -1; n <= 110; n++ {
		l = append(l, n)
	}
	return l
}

// some is a few numbers of each kind.
var some = []int{0, 1, 2, 22, 5, 25, 7, 31, 36, 39, 42, 47, 49, 3, -1, 100}

// orders is all lists of so many things that stand among so many.
func orders(things, long int) iter.Seq[[]int] {
	return func(yield func([]int) bool) {
		at := make([]int, long)
		for {
			if !yield(at) {
				return
			}
			i := 0
			for i < long && at[i] == things-1 {
				at[i] = 0
				i++
			}
			if i == long {
				return
			}
			at[i]++
		}
	}
}

// lists is all lists of so many of the few numbers.
func lists(long int) iter.Seq[[]int] {
	return func(yield func([]int) bool) {
		for at := range orders(len(some), long) {
			l := make([]int, long)
			for i, x := range at {
				l[i] = some[x]
			}
			if !yield(l) {
				return
			}
		}
	}
}

// applies fails unless Apply makes of attributes what the words make of them, and leaves the numbers as they are.
func applies(t *testing.T, p plain, l ...int) {
	t.Helper()
	kept := slices.Clone(l)
	if a, want := sgr.Apply(p.number(), l...), p.made(l).number(); a != want {
		t.Fatalf("Apply(%d, %v): %d, not %d", p.number(), l, a, want)
	}
	if !slices.Equal(l, kept) {
		t.Fatalf("Apply(%d, %v): it wrote into the numbers: %v", p.number(), kept, l)
	}
}

// may fails unless attributes may be.
func may(t *testing.T, a int) {
	t.Helper()
	if e := sgr.May(a); e != api.OK {
		t.Fatalf("May(%d): %d", a, int(e))
	}
}
