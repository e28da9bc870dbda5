package vt52_test

import (
	"testing"

	"vizard/api"
	"vizard/queue"
	"vizard/screen"
	"vizard/vt52"
	"vizard/walk"
)

// begun is sequences that are not at their end.
var begun = []string{"\x1b", "\x1bY", "\x1bY!", "\x1bY\x00", "\x1bY\xff", "\x1bYY", "\x1bY\n"}

// P12.2: Pending behind each byte of a sequence, and behind its end.
func TestPending(t *testing.T) {
	for _, c := range []struct{ text, want string }{
		{"", ""}, {"a", ""}, {"\x1b", "\x1b"}, {"a\x1b", "\x1b"}, {"\x1bA", ""}, {"\x1bQ", ""}, {"\x1b\x00", ""}, {"\x1bY", "\x1bY"}, {"\x1bY!", "\x1bY!"}, {"\x1bY! ", ""},
		{"\x1bY\x00", "\x1bY\x00"}, {"\x1bY\xff", "\x1bY\xff"}, {"\x1bY\xff\xff", ""}, {"\x1bY\x00\x00", ""}, {"\x1bYY", "\x1bYY"}, {"\x1bYYY", ""}, {"\x1bYYYY", ""},
		{"\x1b\x1b", "\x1b"}, {"\x1bY\x1b", "\x1b"}, {"\x1bY!\x1b", "\x1b"}, {"\x1bY!\x1bY", "\x1bY"}, {"\x1b\x1b\x1bY\n", "\x1bY\n"}, {"\x1bZ\x1b", "\x1b"}, {"x\x1bYé", ""},
	} {
		r := of(t, size(3, 4), pos(1, 1), 5)
		r.feed(c.text)
		if s := r.x.Pending(); s != c.want {
			t.Errorf("%q: %q is pending", c.text, s)
		}
	}
}

// P12.2: Drop lets nothing be pending, at each place of a sequence, and turns nothing else; what is fed then is outside.
func TestDrop(t *testing.T) {
	for _, ahead := range append([]string{"", "a", "\x1bA"}, begun...) {
		r := board(t, "abc/def/ghi", pos(1, 1))
		r.feed("\x1bF\x1b=\x1bZ\x1bA")
		r.feed(ahead)
		r.x.Drop()
		r.want.pending = ""
		r.is()
		r.x.Drop()
		r.is()
		r.feed("A b\x1bCY\x1bG")
	}
}

// P12.2: Reset behind modes, a sequence that is begun and cells that are drawn; what waits stays, and the terminal goes on as a new one.
func TestReset(t *testing.T) {
	for _, ahead := range append([]string{"", "\x1bF", "\x1b=", "\x1b[", "\x1bF\x1b=\x1b[", "ab\ncd\x1bY!!", "\x1bY\" \n\n"}, begun...) {
		r := of(t, size(3, 10), pos(1, 1), 4)
		r.s.Stop(3, true)
		r.feed("\x1bZ")
		r.feed(ahead)
		r.x.Reset()
		r.want = plain{z: r.want.z, cells: make([]api.Cell, 30), most: 4, replies: "\x1b/K"}
		for n := range r.want.cells {
			r.want.cells[n] = blank
		}
		r.is()
		if l := r.s.Listed(); len(l) != 1 || l[0] != 3 {
			t.Errorf("the stops are %v", l)
		}
		r.x.Reset()
		r.is()
		r.feed("Aaz\t~\x1bF~\x1bZ\n\n\nx\x1bY")
	}
}

// P12.2: the whole screen is blank behind Reset, whatever its cells were.
func TestResetOfOtherCells(t *testing.T) {
	for _, z := range small {
		r := of(t, z, pos(z.Rows-1, z.Cols-1), 0)
		for n, p := range every(z) {
			r.s.Set(p, api.Cell{Glyph: 'x', Attr: n % 64, Guard: n%2 == 0, Mark: n % 3})
		}
		r.x.Reset()
		for _, p := range every(z) {
			if c, _ := r.s.At(p); c != blank {
				t.Errorf("%v of %v: %v", p, z, c)
			}
		}
		if p, pends := r.s.Cursor(); p != pos(0, 0) || pends {
			t.Errorf("%v: the cursor is at %v, %v", z, p, pends)
		}
	}
}

// P12.2: of a nil terminal nothing.
func TestNil(t *testing.T) {
	var x *vt52.Term
	x.Feed("")
	x.Feed("a\x1bF\x1bZ\x1bY")
	x.Drop()
	x.Reset()
	if x.Modes() != (vt52.Modes{}) || x.Pending() != "" {
		t.Errorf("%v, %q", x.Modes(), x.Pending())
	}
}

// P12.1, P12.3: on a screen whose cursor is to go to the next line, what moves it ends that.
func TestMovesOnAScreenThatPends(t *testing.T) {
	for text, want := range map[string]api.Pos{
		"\b": pos(0, 1), "\t": pos(0, 2), "\n": pos(1, 2), "\r": pos(0, 0), "\x1bA": pos(0, 2), "\x1bB": pos(1, 2), "\x1bC": pos(0, 2), "\x1bD": pos(0, 1),
		"\x1bH": pos(0, 0), "\x1bI": pos(0, 2), "\x1bY! ": pos(1, 0), "\x1bY\x1f\x1f": pos(0, 2),
	} {
		s, _ := screen.New(size(2, 3))
		s.Move(pos(0, 2))
		s.Put(blank, walk.Pend, false)
		q, _ := queue.New(0)
		x, _ := vt52.On(s, q)
		x.Feed(text)
		if p, pends := s.Cursor(); p != want || pends {
			t.Errorf("%q: %v, %v, not %v", text, p, pends, want)
		}
	}
}

// P12.1: the screen is looked at when a byte is fed: others may turn it between.
func TestScreenTurnedBetween(t *testing.T) {
	r := board(t, "abc/def", pos(1, 2))
	r.x.Feed("\x1bY")
	r.s.Resize(size(4, 20))
	r.s.Move(pos(2, 9))
	r.x.Feed("\x1f$")
	if r.s.Pos != pos(2, 4) {
		t.Errorf("the cursor is at %v", r.s.Pos)
	}
	r.x.Feed("\t\t\tx\x1bY#3y")
	r.s.Resize(size(1, 1))
	r.x.Feed("xyz\t\n\x1bYaav")
	r.shows("v", pos(0, 0))
	r.s.Resize(size(2, 2))
	r.s.Set(pos(1, 1), api.Cell{Glyph: 'w'})
	r.s.Move(pos(1, 0))
	r.x.Feed("u\x1bD\x1bK")
	r.shows("v /  ", pos(1, 0))
}

// R3: a terminal knows nothing of another one, also of one on the same screen and queue.
func TestTerminalsAreTheirOwn(t *testing.T) {
	a, b := of(t, size(3, 9), pos(1, 1), 9), of(t, size(2, 4), pos(0, 0), 9)
	a.feed("\x1bF\x1bY")
	b.feed("\x1b=\x1b")
	a.feed("!")
	b.feed("Cx\x1bZ")
	a.feed("!x")
	x, _ := vt52.On(a.s, a.q)
	if x.Modes() != (vt52.Modes{}) || x.Pending() != "" {
		t.Errorf("%v, %q", x.Modes(), x.Pending())
	}
	x.Feed("\x1b[\x1bY")
	a.is()
	a.feed("y")
	x.Drop()
	a.feed("\x1bY")
	x.Feed("\x1bZ")
	if s := a.q.Drain(); s != "\x1b/K" || a.x.Pending() != "\x1bY" || x.Modes() != (vt52.Modes{Hold: true}) {
		t.Errorf("%q, %q, %v", s, a.x.Pending(), x.Modes())
	}
	x.Reset()
	if a.x.Modes() != (vt52.Modes{Graph: true}) || a.x.Pending() != "\x1bY" {
		t.Errorf("%v, %q", a.x.Modes(), a.x.Pending())
	}
}
