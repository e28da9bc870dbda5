package glyph_test

import (
	"slices"
	"strings"
	"testing"
	"unicode/utf8"

	"vizard/glyph"
)

// P2.1
func TestSetsAndNoneAreNumbered(t *testing.T) {
	if !slices.Equal(sets, []int{1, 2, 3, 4, 5}) {
		t.Error(sets)
	}
	if glyph.None != none {
		t.Error(glyph.None)
	}
}

// P2.1
func TestOfEachByteOfEachSet(t *testing.T) {
	each(t, func(t *testing.T, set int, b byte) {
		if got, want := glyph.Of(set, b), told(set)[b]; got != want {
			t.Errorf("Of(%d, %d): %U, want %U", set, b, got, want)
		}
	})
}

// P2.1: the first and the last byte of each run of glyphs, and the bytes beside it.
func TestOfEdgesOfRuns(t *testing.T) {
	for _, c := range []struct {
		set  int
		b    byte
		want rune
	}{
		{glyph.Ascii, 0, none}, {glyph.Ascii, 31, none}, {glyph.Ascii, 32, ' '}, {glyph.Ascii, 126, '~'}, {glyph.Ascii, 127, none}, {glyph.Ascii, 160, none}, {glyph.Ascii, 255, none},
		{glyph.CP437, 0, ' '}, {glyph.CP437, 1, '☺'}, {glyph.CP437, 31, '▼'}, {glyph.CP437, 32, ' '}, {glyph.CP437, 126, '~'}, {glyph.CP437, 127, '⌂'},
		{glyph.CP437, 128, 'Ç'}, {glyph.CP437, 143, 'Å'}, {glyph.CP437, 144, 'É'}, {glyph.CP437, 159, 'ƒ'}, {glyph.CP437, 160, 'á'}, {glyph.CP437, 175, '»'},
		{glyph.CP437, 176, '░'}, {glyph.CP437, 191, '┐'}, {glyph.CP437, 192, '└'}, {glyph.CP437, 207, '╧'}, {glyph.CP437, 208, '╨'}, {glyph.CP437, 223, '▀'},
		{glyph.CP437, 224, 'α'}, {glyph.CP437, 239, '∩'}, {glyph.CP437, 240, '≡'}, {glyph.CP437, 254, '■'}, {glyph.CP437, 255, 0xa0},
		{glyph.Graph52, 31, none}, {glyph.Graph52, 32, ' '}, {glyph.Graph52, 93, ']'}, {glyph.Graph52, 94, ' '}, {glyph.Graph52, 95, ' '}, {glyph.Graph52, 96, ' '},
		{glyph.Graph52, 97, '█'}, {glyph.Graph52, 126, '¶'}, {glyph.Graph52, 127, none}, {glyph.Graph52, 222, none},
		{glyph.Wyse, 31, none}, {glyph.Wyse, 32, ' '}, {glyph.Wyse, 47, '/'}, {glyph.Wyse, 48, '┬'}, {glyph.Wyse, 63, '░'}, {glyph.Wyse, 64, '@'}, {glyph.Wyse, 126, '~'}, {glyph.Wyse, 127, none}, {glyph.Wyse, 176, none},
		{glyph.Fold, 0, none}, {glyph.Fold, 31, none}, {glyph.Fold, 32, ' '}, {glyph.Fold, 64, '@'}, {glyph.Fold, 65, 'A'}, {glyph.Fold, 90, 'Z'}, {glyph.Fold, 96, '`'},
		{glyph.Fold, 97, 'A'}, {glyph.Fold, 122, 'Z'}, {glyph.Fold, 123, '{'}, {glyph.Fold, 126, '~'}, {glyph.Fold, 127, none}, {glyph.Fold, 128, none}, {glyph.Fold, 159, none},
		{glyph.Fold, 160, ' '}, {glyph.Fold, 193, 'A'}, {glyph.Fold, 224, '`'}, {glyph.Fold, 225, 'A'}, {glyph.Fold, 250, 'Z'}, {glyph.Fold, 251, '{'}, {glyph.Fold, 254, '~'}, {glyph.Fold, 255, none},
	} {
		if got := glyph.Of(c.set, c.b); got != c.want {
			t.Errorf("Of(%d, %d): %U, want %U", c.set, c.b, got, c.want)
		}
	}
}

// P2.1, P2.2
func TestSetThatIsNone(t *testing.T) {
	for _, set := range noSets {
		for b := range 256 {
			if got := glyph.Of(set, byte(b)); got != none {
				t.Errorf("Of(%d, %d): %U", set, b, got)
			}
			for _, other := range append(sets, set) {
				if x, is := glyph.Turn(set, other, byte(b)); x != 0 || is {
					t.Errorf("Turn(%d, %d, %d): %d, %v", set, other, b, x, is)
				}
				if x, is := glyph.Turn(other, set, byte(b)); x != 0 || is {
					t.Errorf("Turn(%d, %d, %d): %d, %v", other, set, b, x, is)
				}
			}
		}
		for _, r := range append([]rune{' ', 'A', 'a', '█'}, noGlyphs...) {
			if b, is := glyph.Back(set, r); b != 0 || is {
				t.Errorf("Back(%d, %U): %d, %v", set, r, b, is)
			}
		}
		for b, r := range glyph.All(set) {
			t.Errorf("All(%d): %d, %U", set, b, r)
		}
		if got := glyph.Text(set, "aA\x00\xff"); got != "\ufffd\ufffd\ufffd\ufffd" {
			t.Errorf("Text(%d): %q", set, got)
		}
	}
}

// P2.1: all runes of two bytes, which are more than those that the sets have, and some that are none.
func TestBackIsTheSmallestByte(t *testing.T) {
	for _, set := range sets {
		want := map[rune]byte{}
		for b, r := range told(set) {
			if _, had := want[r]; r != none && !had {
				want[r] = byte(b)
			}
		}
		for r := rune(-10); r < 1<<16+10; r++ {
			b, is := glyph.Back(set, r)
			if w, has := want[r]; b != w || is != has {
				t.Errorf("Back(%d, %U): %d, %v, want %d, %v", set, r, b, is, w, has)
			}
		}
		for _, r := range noGlyphs {
			if b, is := glyph.Back(set, r); b != 0 || is {
				t.Errorf("Back(%d, %U): %d, %v", set, r, b, is)
			}
		}
	}
}

// P2.1: a glyph that several bytes have, and one that the set has lost to another.
func TestBackOfGlyphsThatAreThereTwiceOrNot(t *testing.T) {
	for _, c := range []struct {
		set  int
		r    rune
		want byte
		is   bool
	}{
		{glyph.CP437, ' ', 0, true}, {glyph.Graph52, ' ', 32, true}, {glyph.Fold, ' ', 32, true}, {glyph.Fold, 'A', 65, true}, {glyph.Fold, 'Z', 90, true}, {glyph.Fold, '~', 126, true},
		{glyph.Fold, 'a', 0, false}, {glyph.Fold, 'z', 0, false}, {glyph.Wyse, '0', 0, false}, {glyph.Wyse, '?', 0, false}, {glyph.Graph52, '^', 0, false}, {glyph.Graph52, 'a', 0, false}, {glyph.Graph52, '~', 0, false},
		{glyph.CP437, 0xa0, 255, true}, {glyph.CP437, '█', 219, true}, {glyph.Ascii, 0xa0, 0, false}, {glyph.Ascii, '█', 0, false},
	} {
		if b, is := glyph.Back(c.set, c.r); b != c.want || is != c.is {
			t.Errorf("Back(%d, %U): %d, %v", c.set, c.r, b, is)
		}
	}
}

// P2.1, P2.3
func TestTurnKeepsTheGlyph(t *testing.T) {
	for _, to := range sets {
		each(t, func(t *testing.T, from int, b byte) {
			got, is := glyph.Turn(from, to, b)
			want, has := smallest(to, told(from)[b])
			if got != want || is != has {
				t.Errorf("Turn(%d, %d, %d): %d, %v, want %d, %v", from, to, b, got, is, want, has)
			}
			if is && glyph.Of(to, got) != glyph.Of(from, b) {
				t.Errorf("Turn(%d, %d, %d): %d has another glyph", from, to, b, got)
			}
		})
	}
	if b, is := glyph.Turn(glyph.Graph52, glyph.CP437, 97); b != 219 || !is {
		t.Error(b, is)
	}
}

// P2.3
func TestBackOfOf(t *testing.T) {
	each(t, func(t *testing.T, set int, b byte) {
		r := glyph.Of(set, b)
		back, is := glyph.Back(set, r)
		if is != (r != none) || is && glyph.Of(set, back) != r || back > b {
			t.Errorf("Back(%d, Of(%d)): %d, %v", set, b, back, is)
		}
		if set == glyph.Ascii && is && back != b {
			t.Errorf("Back of Ascii's %d: %d", b, back)
		}
	})
}

// P2.2
func TestAllGoesByRisingBytes(t *testing.T) {
	for _, set := range sets {
		all := glyph.All(set)
		for range 2 { // what it yields hangs on the set alone, not on loops ahead
			var got [256]rune
			last := -1
			for b, r := range all {
				if int(b) <= last || r == none {
					t.Errorf("All(%d): %d, %U behind %d", set, b, r, last)
				}
				got[b], last = r, int(b)
			}
			for b, want := range told(set) {
				if want == none {
					want = 0
				}
				if got[b] != want {
					t.Errorf("All(%d): %d: %U, want %U", set, b, got[b], want)
				}
			}
		}
	}
}

// P2.2
func TestAllIsLeftEarly(t *testing.T) {
	for _, set := range sets {
		var all []byte
		for b, r := range told(set) {
			if r != none {
				all = append(all, byte(b))
			}
		}
		for n := 1; n <= len(all); n++ {
			var got []byte
			for b := range glyph.All(set) {
				got = append(got, b)
				if len(got) == n {
					break
				}
			}
			if !slices.Equal(got, all[:n]) {
				t.Errorf("All(%d), left behind %d: %v", set, n, got)
			}
		}
	}
}

// P2.2: a loop in a loop, each with its own place.
func TestAllInAll(t *testing.T) {
	all := glyph.All(glyph.Fold)
	n := 0
	for range all {
		for range all {
			n++
		}
	}
	if n != 190*190 {
		t.Error(n)
	}
}

// P2.2
func TestTextOfEachByte(t *testing.T) {
	for _, set := range sets {
		var s, want []byte
		for b, r := range told(set) {
			one := string([]byte{byte(b)})
			if got := glyph.Text(set, one); got != string(r) {
				t.Errorf("Text(%d, %q): %q", set, one, got)
			}
			s, want = append(s, byte(b)), utf8.AppendRune(want, r)
		}
		if got := glyph.Text(set, string(s)); got != string(want) {
			t.Errorf("Text(%d) of all bytes: %q", set, got)
		}
		if got := glyph.Text(set, strings.Repeat(string(s), 300)); got != strings.Repeat(string(want), 300) {
			t.Errorf("Text(%d) of a long text: %d bytes", set, len(got))
		}
	}
}

// P2.2: bytes are the text's, not its runes; a text without bytes has no glyphs.
func TestTextOfBytesThatAreNoLetters(t *testing.T) {
	for _, c := range []struct {
		set     int
		s, want string
	}{
		{glyph.Ascii, "", ""}, {glyph.CP437, "", ""}, {glyph.Graph52, "", ""}, {glyph.Wyse, "", ""}, {glyph.Fold, "", ""}, {0, "", ""}, {6, "", ""},
		{glyph.CP437, "█", "Γûê"}, {glyph.Ascii, "█", "\ufffd\ufffd\ufffd"}, {glyph.Fold, "\xe1b\xff", "AB\ufffd"},
		{glyph.CP437, "a\xdb\x01\x00", "a█☺ "}, {glyph.Ascii, "\x00~\x7f", "\ufffd~\ufffd"}, {glyph.Wyse, "a0?", "a┬░"}, {glyph.Graph52, "A^~", "A ¶"},
	} {
		if got := glyph.Text(c.set, c.s); got != c.want {
			t.Errorf("Text(%d, %q): %q, want %q", c.set, c.s, got, c.want)
		}
	}
}
