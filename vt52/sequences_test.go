package vt52_test

import (
	"strings"
	"testing"

	"vizard/api"
	"vizard/vt52"
)

// P12.1: A, B, C and D lead up, down, to the right and to the left by one, and stay at the edge; H leads to the first place.
func TestSteps(t *testing.T) {
	for _, z := range append([]api.Size{size(5, 11)}, small...) {
		for _, p := range every(z) {
			goes(t, z, p, "\x1bA", pos(max(0, p.Row-1), p.Col))
			goes(t, z, p, "\x1bB", pos(min(z.Rows-1, p.Row+1), p.Col))
			goes(t, z, p, "\x1bC", pos(p.Row, min(z.Cols-1, p.Col+1)))
			goes(t, z, p, "\x1bD", pos(p.Row, max(0, p.Col-1)))
			goes(t, z, p, "\x1bH", pos(0, 0))
		}
	}
	goes(t, size(4, 9), pos(2, 5), "\x1bA\x1bA\x1bA\x1bC\x1bC", pos(0, 7))
	goes(t, size(4, 9), pos(2, 5), strings.Repeat("\x1bB\x1bD", 20), pos(3, 0))
}

// P12.1: I leads up in its column; from the first row all goes down by one.
func TestReverseFeed(t *testing.T) {
	rows := "ab/cd/ef"
	plays(t,
		play{rows, pos(2, 1), "\x1bI", rows, pos(1, 1)},
		play{rows, pos(2, 0), "\x1bI\x1bI", rows, pos(0, 0)},
		play{rows, pos(1, 1), "\x1bI", rows, pos(0, 1)},
		play{rows, pos(0, 0), "\x1bI", "  /ab/cd", pos(0, 0)},
		play{rows, pos(0, 1), "\x1bI\x1bI", "  /  /ab", pos(0, 1)},
		play{rows, pos(1, 1), "\x1bI\x1bI\x1bI\x1bI\x1bI", "  /  /  ", pos(0, 1)},
		play{rows, pos(0, 0), "\x1bIx\n\r", "x /ab/cd", pos(1, 0)},
		play{"abc", pos(0, 1), "\x1bI", "   ", pos(0, 1)},
		play{"a", pos(0, 0), "\x1bI", " ", pos(0, 0)},
	)
}

// P12.1: J and K let all be blank from the cursor on, to the end of the screen and of the row; the cursor stays.
func TestWipes(t *testing.T) {
	rows := "abc/def/ghi"
	for _, c := range []struct {
		from       api.Pos
		toEnd, row string
	}{
		{pos(0, 0), "   /   /   ", "   /def/ghi"}, {pos(0, 1), "a  /   /   ", "a  /def/ghi"}, {pos(0, 2), "ab /   /   ", "ab /def/ghi"},
		{pos(1, 0), "abc/   /   ", "abc/   /ghi"}, {pos(1, 1), "abc/d  /   ", "abc/d  /ghi"}, {pos(1, 2), "abc/de /   ", "abc/de /ghi"},
		{pos(2, 0), "abc/def/   ", "abc/def/   "}, {pos(2, 1), "abc/def/g  ", "abc/def/g  "}, {pos(2, 2), "abc/def/gh ", "abc/def/gh "},
	} {
		plays(t,
			play{rows, c.from, "\x1bJ", c.toEnd, c.from},
			play{rows, c.from, "\x1bK", c.row, c.from},
			play{rows, c.from, "\x1bK\x1bJ\x1bK", c.toEnd, c.from},
		)
	}
	plays(t, play{"a", pos(0, 0), "\x1bK", " ", pos(0, 0)}, play{"a", pos(0, 0), "\x1bJ", " ", pos(0, 0)})
}

// P12.1: F and G, = and >, [ and \ let each mode be on and off, also twice, and turn no other one.
func TestModes(t *testing.T) {
	for _, c := range []struct {
		on, off string
		is      func(m vt52.Modes) bool
		others  string
	}{
		{"\x1bF", "\x1bG", func(m vt52.Modes) bool { return m.Graph }, "\x1b=\x1b["},
		{"\x1b=", "\x1b>", func(m vt52.Modes) bool { return m.Keypad }, "\x1bF\x1b["},
		{"\x1b[", "\x1b\\", func(m vt52.Modes) bool { return m.Hold }, "\x1bF\x1b="},
	} {
		for _, ahead := range []string{"", c.others} {
			r := of(t, size(2, 3), pos(1, 1), 10)
			r.feed(ahead)
			without := r.x.Modes()
			for i, text := range []string{c.off, c.on, c.on, c.off, c.off, c.on + c.off + c.on, c.off + c.on + c.off} {
				r.feed(text)
				want := []bool{false, true, true, false, false, true, false}[i]
				if m := r.x.Modes(); c.is(m) != want || !want && m != without {
					t.Errorf("%q: %v", r.fed, m)
				}
			}
		}
	}
	r := of(t, size(2, 3), pos(1, 1), 10)
	r.feed("\x1bF\x1b=\x1b[")
	if r.x.Modes() != (vt52.Modes{Graph: true, Keypad: true, Hold: true}) {
		t.Errorf("%v", r.x.Modes())
	}
}

// P12.1: modes are turned behind 27 alone.
func TestModesOutsideOfASequence(t *testing.T) {
	r := board(t, "......", pos(0, 0))
	r.feed("F=[a")
	r.shows("F=[a..", pos(0, 4))
	r.feed("\x1bF\x1b=\x1b[")
	r.feed("G>\\")
	if r.x.Modes() != (vt52.Modes{Graph: true, Keypad: true, Hold: true}) {
		t.Errorf("%v", r.x.Modes())
	}
}

// P12.1: Hold and Keypad do nothing to what glyphs and lines do.
func TestHoldAndKeypadDoNothing(t *testing.T) {
	text := "ab\n\n\n\x1bIc\x1bJ^_`az~\x1bY! d\t\b"
	a, b := board(t, "abcd/efgh", pos(1, 1)), board(t, "abcd/efgh", pos(1, 1))
	a.feed(text)
	b.feed("\x1b=\x1b[")
	b.feed(text)
	if !same(a.s.Rows(), b.s.Rows()) {
		t.Errorf("%v, and %v", a.s.Rows(), b.s.Rows())
	}
}

// P12.1: Z replies; where it does not fit it is refused whole, and what is fed behind it does what it does.
func TestReply(t *testing.T) {
	r := of(t, size(2, 3), pos(1, 1), 9)
	r.feed("\x1bZ")
	if s := r.q.Copy().Drain(); s != "\x1b/K" {
		t.Errorf("%q waits", s)
	}
	r.feed("\x1bZ\x1bZ")
	if s := r.q.Copy().Drain(); s != "\x1b/K\x1b/K\x1b/K" || r.q.Over() {
		t.Errorf("%q waits, over %v", s, r.q.Over())
	}
	r.feed("\x1bZx")
	if s := r.q.Drain(); s != "\x1b/K\x1b/K\x1b/K" || r.s.Pos != pos(1, 2) {
		t.Errorf("%q waits, the cursor is at %v", s, r.s.Pos)
	}
	for most := range 8 {
		r := of(t, size(2, 3), pos(0, 0), most)
		r.feed("\x1bZ").feed("\x1bZ").feed("\x1bZ\x1bZy")
		if s := r.q.Drain(); s != strings.Repeat("\x1b/K", most/3) {
			t.Errorf("of most %d: %q", most, s)
		}
		r.x.Feed("\x1bZ")
		if s := r.q.Drain(); (s == "\x1b/K") != (most >= 3) {
			t.Errorf("of most %d, drained: %q", most, s)
		}
	}
}

// P12.1: a reply comes behind what waits, and is refused where that leaves no room.
func TestReplyBehindOthers(t *testing.T) {
	r := of(t, size(2, 3), pos(0, 0), 5)
	r.q.Push("ab")
	r.x.Feed("\x1bZ")
	if s := r.q.Drain(); s != "ab\x1b/K" {
		t.Errorf("%q", s)
	}
	r.q.Push("abc")
	r.x.Feed("\x1bZ\x1bZ")
	if over, s := r.q.Over(), r.q.Drain(); s != "abc" || !over {
		t.Errorf("%q, over %v", s, over)
	}
}

// P12.1: Y leads to each place that there is, from each one.
func TestPlace(t *testing.T) {
	for _, z := range small {
		for _, from := range every(z) {
			for _, to := range every(z) {
				goes(t, z, from, tell(to), to)
			}
		}
	}
	for _, z := range []api.Size{size(24, 80), size(224, 224)} {
		r := of(t, z, pos(3, 5), 0)
		for _, to := range every(z) {
			r.x.Feed(tell(to))
			if r.s.Pos != to {
				t.Errorf("the cursor is at %v, not %v", r.s.Pos, to)
			}
		}
	}
}

// P12.1: Y of a row that is not there stays in its row; of a column that is not there leads to the last one, of one below 0 stays.
func TestPlaceThatIsNotThere(t *testing.T) {
	for _, c := range []struct {
		text string
		want api.Pos
	}{
		{"!\"", pos(1, 2)}, {"  ", pos(0, 0)}, {"#)", pos(3, 9)}, {"$\"", pos(2, 2)}, {"%\"", pos(2, 2)}, {"~\"", pos(2, 2)}, {"\xff\"", pos(2, 2)}, {"\x80\"", pos(2, 2)},
		{"\x1f\"", pos(2, 2)}, {"\x00\"", pos(2, 2)}, {"\x0a\"", pos(2, 2)}, {"!)", pos(1, 9)}, {"!*", pos(1, 9)}, {"!+", pos(1, 9)}, {"!~", pos(1, 9)}, {"!\xff", pos(1, 9)},
		{"!\x80", pos(1, 9)}, {"!\x1f", pos(1, 5)}, {"!\x00", pos(1, 5)}, {"!\x0d", pos(1, 5)}, {"!\x1a", pos(1, 5)}, {"!\x1c", pos(1, 5)}, {"\x1f\x1f", pos(2, 5)},
		{"\x00\x00", pos(2, 5)}, {"\xff\xff", pos(2, 9)}, {"\x08\xff", pos(2, 9)}, {"$*", pos(2, 9)}, {"$\x1f", pos(2, 5)}, {"YY", pos(2, 9)}, {"\x7f\x7f", pos(2, 9)},
	} {
		goes(t, size(4, 10), pos(2, 5), "\x1bY"+c.text, c.want)
	}
	for _, from := range []api.Pos{pos(0, 0), pos(1, 2), pos(222, 100), pos(254, 254)} {
		goes(t, size(255, 255), from, "\x1bY\xff\xff", pos(223, 223))
		goes(t, size(223, 223), pos(min(from.Row, 222), min(from.Col, 222)), "\x1bY\xff\xff", pos(min(from.Row, 222), 222))
		goes(t, size(255, 255), from, "\x1bY\xe1\x7f", pos(193, 95))
		goes(t, size(255, 255), from, "\x1bY\x1f\x1f", from)
	}
}

// P12.1: 27 begins a sequence anew behind each byte of one, also as a row's or a column's byte.
func TestEscapeAnew(t *testing.T) {
	for _, ahead := range []string{"", "\x1b", "\x1b\x1b", "\x1bY", "\x1bY!", "\x1bY\x1b", "\x1bY!\x1bY", "\x1bY\xff", "\x1bY\x1bY\x1b", "\x1bQ"} {
		r := board(t, "abc/def/ghi", pos(1, 1))
		r.feed(ahead)
		r.feed("\x1b")
		if s := r.x.Pending(); s != "\x1b" {
			t.Errorf("%q: %q is pending", r.fed, s)
		}
		r.feed("C")
		r.shows("abc/def/ghi", pos(1, 2))
		r.feed("x")
		r.shows("abc/dex/ghi", pos(1, 2))
		r.feed(ahead)
		r.feed("\x1bY  y")
		r.shows("ybc/dex/ghi", pos(0, 1))
	}
}

// P12.1: each byte that does nothing behind 27 ends the sequence, also those that do something outside of one; the next byte is outside.
func TestOthersEnd(t *testing.T) {
	count := 0
	for _, text := range bytes() {
		if strings.Contains("ABCDFGHIJKYZ=>[\\\x1b", text) {
			continue
		}
		count++
		for _, from := range every(size(2, 3)) {
			goes(t, size(2, 3), from, "\x1b"+text, from)
		}
		r := board(t, "abc/def", pos(1, 1))
		r.feed("\x1b" + text + "x")
		r.shows("abc/dxf", pos(1, 2))
		r.feed("\x1b" + text + text + "y")
	}
	if count != 256-17 {
		t.Errorf("%d bytes", count)
	}
	r := board(t, "abc/def", pos(1, 1))
	r.feed("\x1b\n\x1b\r\x1b\t\x1b\bx\x1bax\x1b x")
	r.shows("abc/dxx", pos(1, 2))
}

// P12.1: what ends a sequence is its last byte, and the one behind it is outside.
func TestBehindASequence(t *testing.T) {
	rows, from := "abc/def/ghi", pos(1, 1)
	plays(t,
		play{rows, from, "\x1bAA", "aAc/def/ghi", pos(0, 2)},
		play{rows, from, "\x1bDD", "abc/Def/ghi", pos(1, 1)},
		play{rows, from, "\x1bHH", "Hbc/def/ghi", pos(0, 1)},
		play{rows, from, "\x1bII", "aIc/def/ghi", pos(0, 2)},
		play{rows, from, "\x1bJJJ", "abc/dJJ/   ", pos(1, 2)},
		play{rows, from, "\x1bKK", "abc/dK /ghi", pos(1, 2)},
		play{rows, from, "\x1bFF", "abc/dFf/ghi", pos(1, 2)},
		play{rows, from, "\x1b==", "abc/d=f/ghi", pos(1, 2)},
		play{rows, from, "\x1b[[A", "abc/d[A/ghi", pos(1, 2)},
		play{rows, from, "\x1bZZ", "abc/dZf/ghi", pos(1, 2)},
		play{rows, from, "\x1bYYYY", "abc/deY/ghi", pos(1, 2)},
		play{rows, from, "\x1bY! Y", "abc/Yef/ghi", pos(1, 1)},
	)
}
