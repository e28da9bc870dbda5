package attr_test

import (
	"math"
	"slices"
	"strings"
	"testing"

	"vizard/api"
	"vizard/attr"
)

// P3.1: each bit alone, all of them, and every number around those that may be.
func TestMayBe(t *testing.T) {
	may := map[int]int{}
	for _, l := range allLooks() {
		may[l.a]++
	}
	if len(may) != 64*65 {
		t.Fatal(len(may))
	}
	for a := -3 << 14; a < 5<<14; a++ {
		want := api.ErrArg
		if may[a] == 1 {
			want = api.OK
		}
		if e := attr.May(a); e != want {
			t.Fatal(a, int(e))
		}
	}
	for _, a := range []int{0, bold, dim, under, blink, reverse, hidden, colour, 63, 127, 64 + 7*fore, 64 + 7*back, 127 + 7*fore + 7*back} {
		if e := attr.May(a); e != api.OK {
			t.Error(a, int(e))
		}
	}
	for _, a := range noLooks() {
		if e := attr.May(a); e != api.ErrArg {
			t.Error(a, int(e))
		}
	}
}

// P3.1: a single bit far above the others is one too many, alone and beside what may be.
func TestMayNotHaveHighBits(t *testing.T) {
	for bit := 14; bit < 64; bit++ {
		for _, a := range []int{0, bold, 63, colour, 127 + 7*fore + 7*back} {
			if e := attr.May(a | 1<<bit); e != api.ErrArg {
				t.Error(a, bit, int(e))
			}
		}
	}
}

// P3.1: the bits of each personality.
func TestMask(t *testing.T) {
	for p, want := range map[int]int{
		api.VT52: 0,
		api.Ansi: bold + under + blink + reverse + hidden + colour + 7*fore + 7*back,
		api.Wyse: dim + under + blink + reverse + hidden,
		api.ADM:  under + blink + reverse + hidden,
	} {
		if m := attr.Mask(p); m != want {
			t.Error(p, m)
		}
	}
	for _, p := range []int{0, 5, -1, -2, 6, 256 + 2, 1<<32 + 3, math.MinInt, math.MaxInt} {
		if m := attr.Mask(p); m != 0 {
			t.Error(p, m)
		}
	}
}

// P3.1: Keep by the words of each personality, one by one.
func TestKeep(t *testing.T) {
	for _, l := range allLooks() {
		for _, c := range []struct{ p, want int }{
			{api.VT52, 0},
			{api.Ansi, l.a &^ dim},
			{api.Wyse, l.a & 63 &^ bold},
			{api.ADM, l.a & 63 &^ (bold + dim)},
			{0, 0},
			{5, 0},
			{-1, 0},
		} {
			if k := attr.Keep(c.p, l.a); k != c.want {
				t.Fatal(c.p, l.a, k)
			}
		}
	}
}

// P3.1: of what may not be, nothing is kept.
func TestKeepOfWhatMayNotBe(t *testing.T) {
	for _, a := range noLooks() {
		for _, p := range personalities {
			if k := attr.Keep(p, a); k != 0 {
				t.Error(p, a, k)
			}
		}
	}
}

// P3.2: Paint with each colour, and with -1 for the one that is there.
func TestPaint(t *testing.T) {
	for _, l := range allLooks() {
		for f := -1; f < 8; f++ {
			for b := -1; b < 8; b++ {
				wantFore, wantBack := f, b
				if f == -1 {
					wantFore = l.fore
				}
				if b == -1 {
					wantBack = l.back
				}
				want := l.a&63 + colour + wantFore*fore + wantBack*back
				if a, e := attr.Paint(l.a, f, b); a != want || e != api.OK {
					t.Fatal(l.a, f, b, a, int(e))
				}
			}
		}
	}
}

// P3.2: the chapter's example, and attributes that have no colour yet.
func TestPaintPlain(t *testing.T) {
	for _, c := range [][4]int{
		{bold, 1, -1, 321},
		{0, -1, -1, 64 + 7*256},
		{hidden, -1, 7, 32 + 64 + 7*256 + 7*2048},
		{dim, 0, -1, 2 + 64},
		{64, -1, -1, 64},
		{64, -1, 5, 64 + 5*2048},
		{64 + 7*256 + 7*2048, 0, 0, 64},
	} {
		if a, e := attr.Paint(c[0], c[1], c[2]); a != c[3] || e != api.OK {
			t.Error(c, a, int(e))
		}
	}
}

// P3.2: colours that are none, on either side, and May's error ahead of theirs.
func TestPaintErrors(t *testing.T) {
	for _, c := range []int{-2, 8, -3, 9, 15, 256, -256, 1 << 32, 1<<32 + 1, math.MinInt, math.MaxInt} {
		for _, a := range []int{0, bold, 63, 64, 321, 127 + 7*fore + 7*back} {
			for _, pair := range [][2]int{{c, -1}, {c, 7}, {-1, c}, {7, c}, {0, c}, {c, 0}, {c, c}} {
				if got, e := attr.Paint(a, pair[0], pair[1]); got != 0 || e != api.ErrRange {
					t.Error(a, pair, got, int(e))
				}
			}
		}
	}
	for _, a := range noLooks() {
		for _, pair := range [][2]int{{-1, -1}, {7, 7}, {0, 0}, {8, 0}, {0, -2}, {8, 8}, {math.MinInt, math.MaxInt}} {
			if got, e := attr.Paint(a, pair[0], pair[1]); got != 0 || e != api.ErrArg {
				t.Error(a, pair, got, int(e))
			}
		}
	}
}

// P3.2: what is seen, with Reverse and Hidden alone and together.
func TestColours(t *testing.T) {
	for _, l := range allLooks() {
		want := [2]int{l.fore, l.back}
		switch l.a & (reverse + hidden) {
		case reverse:
			want = [2]int{l.back, l.fore}
		case hidden:
			want = [2]int{l.back, l.back}
		case reverse + hidden:
			want = [2]int{l.fore, l.fore}
		}
		if f, b := attr.Colours(l.a); f != want[0] || b != want[1] {
			t.Fatal(l.a, f, b)
		}
	}
	for _, c := range [][3]int{{0, 7, 0}, {reverse, 0, 7}, {hidden, 0, 0}, {reverse + hidden, 7, 7}, {321, 1, 0}, {321 + reverse, 0, 1}, {321 + hidden, 0, 0}, {321 + reverse + hidden, 1, 1}} {
		if f, b := attr.Colours(c[0]); f != c[1] || b != c[2] {
			t.Error(c, f, b)
		}
	}
}

// P3.2: what may not be is seen as 7 and 0, whatever bits it has.
func TestColoursOfWhatMayNotBe(t *testing.T) {
	for _, a := range noLooks() {
		if f, b := attr.Colours(a); f != 7 || b != 0 {
			t.Error(a, f, b)
		}
	}
	for _, a := range []int{128 + reverse, 128 + hidden, 128 + reverse + hidden, 128 + colour + 3*fore + 4*back, 3*fore + 4*back + reverse} {
		if f, b := attr.Colours(a); f != 7 || b != 0 {
			t.Error(a, f, b)
		}
	}
}

// P3.3: the words of each attributes, and back.
func TestNames(t *testing.T) {
	for _, l := range allLooks() {
		if s := attr.Names(l.a); s != l.names {
			t.Fatal(l.a, s, l.names)
		}
		if a, e := attr.Parse(l.names); a != l.a || e != api.OK {
			t.Fatal(l.names, a, int(e))
		}
	}
	for _, a := range noLooks() {
		if s := attr.Names(a); s != "" {
			t.Error(a, s)
		}
	}
}

// P3.3: texts written out.
func TestNamesWrittenOut(t *testing.T) {
	for a, want := range map[int]string{
		0: "plain", 1: "bold", 2: "dim", 4: "under", 8: "blink", 16: "reverse", 32: "hidden",
		63:                   "bold,dim,under,blink,reverse,hidden",
		64:                   "fore=0,back=0",
		321:                  "bold,fore=1,back=0",
		127 + 7*256 + 6*2048: "bold,dim,under,blink,reverse,hidden,fore=7,back=6",
	} {
		if s := attr.Names(a); s != want {
			t.Error(a, s)
		}
		if got, e := attr.Parse(want); got != a || e != api.OK {
			t.Error(want, got, int(e))
		}
	}
}

// almost is texts that come near to Names and are none.
var almost = []string{
	"", ",", ",,", " ", "plain ", " plain", "plain,", ",plain", "plain,plain", "plain,bold", "bold,plain", "PLAIN", "Plain", "plai", "plainx", "none",
	"bold,", ",bold", "bold,,dim", "bold, dim", "bold ,dim", "bold;dim", "bold dim", "bolddim", "boldx", "xbold", "bol", "Bold", "BOLD", "bold\n", "bold\x00", "\xff", "bold,\xff",
	"bold,bold", "dim,bold", "under,dim", "hidden,bold", "reverse,blink", "bold,dim,bold", "hidden,reverse", "bold,word", "colour", "colour,fore=1,back=0",
	"fore=1", "back=0", "back=0,fore=1", "fore=1,back=", "fore=,back=0", "fore=,back=", "fore,back", "fore=1,", "fore=1,back=0,", ",fore=1,back=0",
	"fore=8,back=0", "fore=0,back=8", "fore=9,back=9", "fore=-1,back=0", "fore=0,back=-1", "fore=10,back=0", "fore=0,back=10", "fore=01,back=0", "fore=0,back=00", "fore=+1,back=0",
	"fore=a,back=0", "fore=0,back=/", "fore=0,back=:", "fore=1back=0", "fore=1, back=0", "fore =1,back=0", "fore= 1,back=0", "Fore=1,back=0", "fore=1,back=0,bold", "fore=1,bold,back=0",
	"fore=1,fore=1,back=0", "fore=1,back=0,back=0", "fore=1,fore=2,back=3", "fore=0,fore=0", "back=0,back=0", "fore=1,back=0,fore=1", "plain,fore=1,back=0", "fore=1,back=0,plain",
	"fore=0,back=0,fore=0,back=0", "foreback", "fore=\xb9,back=0", "fore=１,back=0", "321", "0", "64",
}

// P3.3: texts that are almost Names.
func TestParseErrors(t *testing.T) {
	long := strings.Repeat(",", 100000)
	for _, s := range append(slices.Clone(almost), long, "bold"+long, strings.Repeat("bold,", 10000)+"bold") {
		if a, e := attr.Parse(s); a != 0 || e != api.ErrForm {
			t.Errorf("%.40q %d %d", s, a, int(e))
		}
	}
}

// P3.3: one byte more, less or another turns Names into another's Names or into none.
func TestParseOfTurnedTexts(t *testing.T) {
	have := map[string]int{}
	for _, l := range allLooks() {
		have[l.names] = l.a + 1
	}
	for _, base := range []string{"plain", "bold", "dim,under", "reverse,hidden", "fore=0,back=7", "bold,fore=1,back=0"} {
		for i := range len(base) {
			for _, with := range []string{"", ",", "0", "7", "8", "=", "b", " "} {
				for _, s := range []string{base[:i] + with + base[i:], base[:i] + with + base[i+1:]} {
					a, e := attr.Parse(s)
					if n := have[s]; n > 0 && (a != n-1 || e != api.OK) || n == 0 && (a != 0 || e != api.ErrForm) {
						t.Error(s, a, int(e))
					}
				}
			}
		}
	}
}

// P3.4: Parse of Names is the attributes; Keep twice is Keep once, and may be.
func TestThereAndBack(t *testing.T) {
	for _, l := range allLooks() {
		if a, e := attr.Parse(attr.Names(l.a)); a != l.a || e != api.OK {
			t.Fatal(l.a, a, int(e))
		}
		for _, p := range personalities {
			once := attr.Keep(p, l.a)
			if twice := attr.Keep(p, once); twice != once || attr.May(once) != api.OK {
				t.Fatal(p, l.a, once, twice)
			}
		}
	}
}

// P3.4: Paint leaves what is no colour; what is Hidden has one colour, painted or not.
func TestPaintLeavesTheRest(t *testing.T) {
	for _, l := range allLooks() {
		for _, pair := range [][2]int{{-1, -1}, {0, 7}, {7, 0}, {3, -1}, {-1, 4}} {
			a, e := attr.Paint(l.a, pair[0], pair[1])
			if e != api.OK || a&63 != l.a&63 || attr.May(a) != api.OK {
				t.Fatal(l.a, pair, a, int(e))
			}
			f, b := attr.Colours(a)
			if a&hidden != 0 && f != b {
				t.Fatal(a, f, b)
			}
		}
		if f, b := attr.Colours(l.a); l.a&hidden != 0 && f != b {
			t.Fatal(l.a, f, b)
		}
	}
}
