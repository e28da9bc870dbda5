package sgr_test

import (
	"slices"
	"testing"

	"vizard/api"
	"vizard/sgr"
)

// P13.3: Apply of Tell is the attributes, whatever was ahead: attributes that may be or not, and other numbers.
func TestApplyOfTell(t *testing.T) {
	var ahead []int
	for _, p := range few() {
		ahead = append(ahead, p.number())
	}
	ahead = append(ahead, nots()[:20]...)
	for _, p := range looks() {
		l, e := sgr.Tell(p.number())
		if e != api.OK {
			t.Fatal(p, int(e))
		}
		for _, attr := range ahead {
			if a := sgr.Apply(attr, l...); a != p.number() {
				t.Fatal(attr, l, a)
			}
		}
		for _, numbers := range [][]int{{1, 31}, {0}, {45, 4, -1}, {0, 0, 8}, {99}} {
			if a := sgr.Apply(0, append(numbers, l...)...); a != p.number() {
				t.Fatal(numbers, l, a)
			}
		}
	}
}

// P13.3: what Apply answers may be, from what may be and from what may not.
func TestApplyMayBe(t *testing.T) {
	for _, attr := range nots() {
		may(t, sgr.Apply(attr))
		for _, n := range numbers() {
			may(t, sgr.Apply(attr, n))
			may(t, sgr.Apply(attr, 44, n, 33))
		}
	}
	for l := range lists(3) {
		for _, p := range few() {
			may(t, sgr.Apply(p.number(), l...))
		}
	}
}

// P13.3: it does not count how numbers are parted over calls that have some each.
func TestNumbersInPieces(t *testing.T) {
	for l := range lists(3) {
		for _, p := range few() {
			whole := sgr.Apply(p.number(), l...)
			for _, cut := range []int{1, 2} {
				if a := sgr.Apply(sgr.Apply(p.number(), l[:cut]...), l[cut:]...); a != whole {
					t.Fatal(p.number(), l, cut, a, whole)
				}
			}
		}
	}
	for l := range lists(4) {
		whole, one := sgr.Apply(full, l...), full
		for _, n := range l {
			one = sgr.Apply(one, n)
		}
		if one != whole {
			t.Fatal(l, one, whole)
		}
	}
}

// P13.3: what is ahead of a 0, be it attributes or numbers, makes no difference to what is behind it.
func TestAheadOfNought(t *testing.T) {
	for ahead := range lists(2) {
		for behind := range lists(2) {
			want := (plain{}).made(append([]int{0}, behind...)).number()
			l := slices.Concat(ahead, []int{0}, behind)
			for _, attr := range []int{0, full, marks, colour + 5*fore, -1, 128} {
				if a := sgr.Apply(attr, l...); a != want {
					t.Fatal(attr, l, a, want)
				}
			}
		}
	}
}

// P13.3: several 0 ahead are as one, and from no attributes as none, if numbers are left.
func TestNoughtsAhead(t *testing.T) {
	for count := 1; count < 6; count++ {
		for long := range 3 {
			for l := range lists(long) {
				for _, p := range few() {
					a := sgr.Apply(p.number(), append(make([]int, count), l...)...)
					if want := sgr.Apply(p.number(), append([]int{0}, l...)...); a != want {
						t.Fatal(p.number(), count, l, a, want)
					}
					if want := sgr.Apply(0, l...); a != want {
						t.Fatal(p.number(), count, l, a, want)
					}
				}
			}
		}
	}
}

// R3: an answer hangs on its arguments alone: calls in between do not count.
func TestCallsInBetween(t *testing.T) {
	first := sgr.Apply(bold, 31, 4)
	for _, p := range few() {
		sgr.Apply(p.number(), 45, 7)
		sgr.Tell(p.number())
		sgr.Resolve(p.number())
		sgr.Text(p.tells()...)
		if a := sgr.Apply(bold, 31, 4); a != first || a != bold+under+colour+fore {
			t.Fatal(a, first)
		}
	}
}
