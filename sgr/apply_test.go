package sgr_test

import (
	"math"
	"testing"

	"vizard/api"
	"vizard/sgr"
)

// P13.1: every number around those that may be, below 0 and above, and bits of nothing.
func TestMayBe(t *testing.T) {
	are := map[int]int{}
	for _, p := range looks() {
		are[p.number()]++
	}
	if len(are) != 64*65 {
		t.Fatal(len(are))
	}
	for a := -3 << 14; a < 5<<14; a++ {
		want := api.ErrArg
		if are[a] == 1 {
			want = api.OK
		}
		if e := sgr.May(a); e != want {
			t.Fatal(a, int(e))
		}
	}
	for _, a := range []int{0, 1, 2, 4, 8, 16, 32, 63, 64, 127, 64 + 256, 64 + 7*256, 64 + 2048, 64 + 7*2048, 127 + 7*256 + 7*2048} {
		may(t, a)
	}
	for _, a := range nots() {
		if e := sgr.May(a); e != api.ErrArg {
			t.Error(a, int(e))
		}
	}
}

// P13.1: the chapter's example, and each number by its own words.
func TestEachNumber(t *testing.T) {
	for _, c := range []struct{ attr, n, want int }{
		{full, 0, 0}, {0, 0, 0}, {colour, 0, 0},
		{0, 1, bold}, {0, 2, dim}, {0, 4, under}, {0, 5, blink}, {0, 7, reverse}, {0, 8, hidden},
		{bold, 1, bold}, {full, 8, full}, {bold, 2, bold + dim}, {dim, 1, bold + dim},
		{0, 30, colour}, {0, 37, colour + 7*fore}, {0, 31, colour + fore},
		{0, 40, colour + 7*fore}, {0, 47, colour + 7*fore + 7*back}, {0, 41, colour + 7*fore + back},
		{colour, 34, colour + 4*fore}, {colour + 5*back, 34, colour + 4*fore + 5*back},
		{colour, 44, colour + 4*back}, {colour + 5*fore, 44, colour + 5*fore + 4*back},
		{full, 30, full - 7*fore}, {full, 40, full - 7*back},
		{marks, 22, marks - bold - dim}, {bold, 22, 0}, {dim, 22, 0}, {hidden, 22, hidden},
		{marks, 24, marks - under}, {under, 24, 0}, {bold, 24, bold},
		{marks, 25, marks - blink}, {blink, 25, 0}, {bold, 25, bold},
		{marks, 27, marks - reverse}, {reverse, 27, 0}, {bold, 27, bold},
		{marks, 28, marks - hidden}, {hidden, 28, 0}, {bold, 28, bold},
		{full, 22, full - bold - dim}, {full, 28, full - hidden},
		{0, 39, 0}, {0, 49, 0}, {marks, 39, marks}, {marks, 49, marks},
		{colour, 39, colour + 7*fore}, {colour + fore + 3*back, 39, colour + 7*fore + 3*back},
		{colour, 49, colour}, {colour + fore + 3*back, 49, colour + fore},
		{full, 39, full}, {full, 49, full - 7*back},
	} {
		if a := sgr.Apply(c.attr, c.n); a != c.want {
			t.Error(c, a)
		}
	}
	if a := sgr.Apply(0, 1, 31); a != bold+colour+fore {
		t.Error(a)
	}
}

// P13.1: numbers that name nothing change nothing.
func TestOtherNumbers(t *testing.T) {
	for _, n := range []int{
		3, 6, 9, 10, 11, 19, 20, 21, 23, 26, 29, 38, 48, 50, 90, 97, 99, 100, 107, 110, -1, -2, -30, -31, -49,
		256, 257, 1<<32 + 1, 1 << 32, 9999, math.MaxInt, math.MinInt,
	} {
		for _, p := range looks() {
			if a := sgr.Apply(p.number(), n); a != p.number() {
				t.Fatal(p.number(), n, a)
			}
		}
	}
}

// P13.1: every number from all attributes that may be.
func TestEveryNumberFromEverywhere(t *testing.T) {
	for _, p := range looks() {
		for _, n := range numbers() {
			if a, want := sgr.Apply(p.number(), n), p.turned(n).number(); a != want {
				t.Fatalf("Apply(%d, %d): %d, not %d", p.number(), n, a, want)
			}
		}
	}
}

// P13.1: of no numbers as of a 0, whatever the attributes are.
func TestNoNumbers(t *testing.T) {
	var none []int
	for _, p := range looks() {
		if a := sgr.Apply(p.number()); a != 0 {
			t.Fatal(p.number(), a)
		}
		if a := sgr.Apply(p.number(), none...); a != 0 {
			t.Fatal(p.number(), a)
		}
		if a := sgr.Apply(p.number(), []int{}...); a != 0 {
			t.Fatal(p.number(), a)
		}
	}
	for _, attr := range nots() {
		if a := sgr.Apply(attr); a != 0 {
			t.Error(attr, a)
		}
	}
}

// P13.1: attributes that may not be are as none, with every number, and with several.
func TestApplyOfWhatMayNotBe(t *testing.T) {
	for _, attr := range nots() {
		for _, n := range numbers() {
			if a, want := sgr.Apply(attr, n), (plain{}).turned(n).number(); a != want {
				t.Fatal(attr, n, a, want)
			}
		}
		for _, l := range [][]int{{1, 31}, {39}, {49, 4}, {3, -1}, {24, 41, 22}, {1, 0}, {0, 1, 0, 2}} {
			if a, want := sgr.Apply(attr, l...), (plain{}).made(l).number(); a != want {
				t.Fatal(attr, l, a, want)
			}
		}
	}
}

// P13.1: all pairs of numbers, one behind the other.
func TestPairsOfNumbers(t *testing.T) {
	for _, p := range []plain{{}, {coloured: true, fore: 3, back: 5}, {marks: [6]bool{true, true, true, true, true, true}}} {
		for x := -1; x <= 50; x++ {
			for y := -1; y <= 50; y++ {
				applies(t, p, x, y)
			}
		}
	}
}

// P13.1: lists of up to three numbers, from attributes of each kind.
func TestListsOfNumbers(t *testing.T) {
	for long := range 4 {
		for l := range lists(long) {
			for _, p := range few() {
				applies(t, p, l...)
			}
		}
	}
}

// P13.1: many numbers.
func TestManyNumbers(t *testing.T) {
	var l []int
	for i := range 3000 {
		l = append(l, (i*i*7+i*13)%53-1)
		if i%7 == 0 {
			applies(t, plain{coloured: true, fore: 1}, l...)
		}
	}
	long := make([]int, 1<<16)
	for i := range long {
		long[i] = 1 + i%49
	}
	applies(t, plain{}, long...)
	long[1<<15] = 0
	applies(t, plain{}, long...)
}

// R2: what stands behind the numbers' length, and ahead of them, is left as it is.
func TestApplyLeavesWhatIsHandedIn(t *testing.T) {
	all := []int{91, 92, 1, 0, 31, 93, 94}
	for from := range all {
		for to := from; to <= len(all); to++ {
			sgr.Apply(full, all[from:to]...)
			sgr.Apply(-1, all[from:to]...)
			sgr.Text(all[from:to]...)
		}
	}
	for i, n := range []int{91, 92, 1, 0, 31, 93, 94} {
		if all[i] != n {
			t.Error(all)
		}
	}
	out := []int{-5, 10000, math.MinInt, math.MaxInt}
	sgr.Text(out...)
	if out[0] != -5 || out[1] != 10000 || out[2] != math.MinInt || out[3] != math.MaxInt {
		t.Error(out)
	}
}
