package sgr_test

import (
	"math"
	"slices"
	"strconv"
	"strings"
	"testing"

	"vizard/api"
	"vizard/sgr"
)

// tells is the numbers that tell attributes, by the chapter's words.
func (p plain) tells() []int {
	l := []int{0}
	for i, n := range []int{1, 2, 4, 5, 7, 8} {
		if p.marks[i] {
			l = append(l, n)
		}
	}
	if p.coloured {
		l = append(l, p.fore+30, p.back+40)
	}
	return l
}

// look is what attributes come to, by the chapter's words.
func (p plain) look() sgr.Look {
	l := sgr.Look{Fore: 7, Back: 0, Bold: p.marks[0], Dim: p.marks[1], Under: p.marks[2], Blink: p.marks[3], Hidden: p.marks[5]}
	if p.coloured {
		l.Fore, l.Back = p.fore, p.back
	}
	if p.marks[4] {
		l.Fore, l.Back = l.Back, l.Fore
	}
	return l
}

// P13.2: the chapter's example, and some more, written out.
func TestTellWrittenOut(t *testing.T) {
	for _, c := range []struct {
		attr int
		want []int
	}{
		{0, []int{0}},
		{bold + colour + fore, []int{0, 1, 31, 40}},
		{marks, []int{0, 1, 2, 4, 5, 7, 8}},
		{full, []int{0, 1, 2, 4, 5, 7, 8, 37, 47}},
		{colour, []int{0, 30, 40}},
		{colour + 7*fore, []int{0, 37, 40}},
		{colour + 7*back, []int{0, 30, 47}},
		{hidden + blink + dim, []int{0, 2, 5, 8}},
		{reverse, []int{0, 7}},
	} {
		if l, e := sgr.Tell(c.attr); e != api.OK || !slices.Equal(l, c.want) {
			t.Error(c, l, int(e))
		}
	}
}

// P13.2: Tell and Resolve of all attributes that may be.
func TestTellAndResolve(t *testing.T) {
	for _, p := range looks() {
		if l, e := sgr.Tell(p.number()); e != api.OK || !slices.Equal(l, p.tells()) {
			t.Fatal(p, l, int(e))
		}
		if l := sgr.Resolve(p.number()); l != p.look() {
			t.Fatal(p, l)
		}
	}
}

// P13.2: of attributes that may not be nothing is told, and they come to what none come to.
func TestTellAndResolveOfWhatMayNotBe(t *testing.T) {
	for _, attr := range nots() {
		if l, e := sgr.Tell(attr); e != api.ErrArg || len(l) != 0 {
			t.Error(attr, l, int(e))
		}
		if l := sgr.Resolve(attr); l != (sgr.Look{Fore: 7}) {
			t.Error(attr, l)
		}
	}
}

// P13.2: Resolve, written out: the colours are changed with one another, and what is Hidden keeps its own.
func TestResolveWrittenOut(t *testing.T) {
	for _, c := range []struct {
		attr int
		want sgr.Look
	}{
		{0, sgr.Look{Fore: 7, Back: 0}},
		{reverse, sgr.Look{Fore: 0, Back: 7}},
		{colour, sgr.Look{Fore: 0, Back: 0}},
		{colour + 3*fore + 4*back, sgr.Look{Fore: 3, Back: 4}},
		{colour + reverse + 3*fore + 4*back, sgr.Look{Fore: 4, Back: 3}},
		{colour + hidden + 3*fore + 4*back, sgr.Look{Fore: 3, Back: 4, Hidden: true}},
		{hidden + reverse, sgr.Look{Fore: 0, Back: 7, Hidden: true}},
		{bold, sgr.Look{Fore: 7, Bold: true}},
		{dim, sgr.Look{Fore: 7, Dim: true}},
		{under, sgr.Look{Fore: 7, Under: true}},
		{blink, sgr.Look{Fore: 7, Blink: true}},
		{full, sgr.Look{Fore: 7, Back: 7, Bold: true, Dim: true, Under: true, Blink: true, Hidden: true}},
	} {
		if l := sgr.Resolve(c.attr); l != c.want {
			t.Error(c, l)
		}
	}
}

// R2: the numbers that Tell answers are the caller's: what is written into them is not told again.
func TestTellIsTheCallers(t *testing.T) {
	for _, p := range few() {
		l, _ := sgr.Tell(p.number())
		for i := range l {
			l[i] = -7
		}
		l = append(l, 1, 2, 3)
		if again, _ := sgr.Tell(p.number()); !slices.Equal(again, p.tells()) {
			t.Fatal(p, again)
		}
		if a := sgr.Apply(0, p.tells()...); a != p.number() {
			t.Fatal(p, a)
		}
	}
}

// P13.2: Text of no numbers, of one, of many, and of those that are too small or too great.
func TestTextWrittenOut(t *testing.T) {
	for _, c := range []struct {
		l    []int
		want string
	}{
		{nil, "\x1b[m"}, {[]int{}, "\x1b[m"},
		{[]int{0}, "\x1b[0m"}, {[]int{7}, "\x1b[7m"}, {[]int{42}, "\x1b[42m"}, {[]int{0, 0}, "\x1b[0;0m"},
		{[]int{0, 1, 31, 40}, "\x1b[0;1;31;40m"},
		{[]int{-1}, "\x1b[0m"}, {[]int{-9999}, "\x1b[0m"}, {[]int{math.MinInt}, "\x1b[0m"}, {[]int{math.MinInt + 1}, "\x1b[0m"},
		{[]int{9998}, "\x1b[9998m"}, {[]int{9999}, "\x1b[9999m"}, {[]int{10000}, "\x1b[9999m"}, {[]int{10001}, "\x1b[9999m"},
		{[]int{1 << 32}, "\x1b[9999m"}, {[]int{1<<32 + 5}, "\x1b[9999m"}, {[]int{math.MaxInt}, "\x1b[9999m"},
		{[]int{-1, 5, 10000, -1, 123}, "\x1b[0;5;9999;0;123m"},
	} {
		if s := sgr.Text(c.l...); s != c.want {
			t.Errorf("%v: %q", c.l, s)
		}
	}
}

// P13.2: Text of each number, alone and between others, and of very many.
func TestText(t *testing.T) {
	for n := -20; n <= 10020; n++ {
		told := strconv.Itoa(n)
		if n < 0 {
			told = "0"
		}
		if n > 9999 {
			told = "9999"
		}
		if s := sgr.Text(n); s != "\x1b["+told+"m" {
			t.Fatalf("%d: %q", n, s)
		}
		if s := sgr.Text(1, n, -3); s != "\x1b[1;"+told+";0m" {
			t.Fatalf("%d: %q", n, s)
		}
	}
	if s := sgr.Text(make([]int, 1<<16)...); s != "\x1b["+strings.Repeat("0;", 1<<16-1)+"0m" {
		t.Error(len(s))
	}
}
