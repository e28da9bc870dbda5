package params_test

import (
	"fmt"
	"slices"
	"strings"
	"testing"

	"vizard/api"
	"vizard/params"
)

// P10.1: each bound that may be, the least and the greatest among them.
func TestNew(t *testing.T) {
	for most := 1; most <= most64; most++ {
		b := none(t, most)
		is(t, fmt.Sprintf("New(%d)", most), b, "", 0)
		if l, ok := b.Numbers(); len(l) != 0 || !ok {
			t.Errorf("New(%d): Numbers %v, %v", most, l, ok)
		}
	}
}

// P10.1
func TestNewOfBoundsThatMayNotBe(t *testing.T) {
	for _, most := range append([]int{0, 65, 66, 128, -1, -2, -63, -64, -65, 1<<32 + 64, -1<<32 + 64}, far...) {
		if b, e := params.New(most); b != nil || e != api.ErrArg {
			t.Errorf("New(%d): %v, %d", most, b, int(e))
		}
	}
}

// P10.1, P10.3: up to each bound and beyond it, what is answered behind each Push; and that again behind Reset.
func TestPushUpToTheBoundAndBeyond(t *testing.T) {
	for most := 1; most <= most64; most++ {
		b := none(t, most)
		for _, first := range []byte{0, 100, 250} {
			want := ""
			for i := range most + 200 {
				x := first + byte(i*7)
				got, what := b.Push(x), fmt.Sprintf("Push %d of most %d", i, most)
				if i < most {
					want += string([]byte{x})
				}
				if got != (i < most) {
					t.Fatalf("%s: %v", what, got)
				}
				is(t, what, b, want, max(0, i+1-most))
				if b.Len() > most {
					t.Fatalf("%s: %d bytes", what, b.Len())
				}
			}
			b.Reset()
			is(t, "Reset", b, "", 0)
		}
	}
}

// P10.1: each byte stands as it is, first, behind others, and last; beyond the bound it is lost, whichever it is.
func TestPushOfAnyByte(t *testing.T) {
	for x := range 256 {
		one := string([]byte{byte(x)})
		is(t, "alone", filled(t, 1, one), one, 0)
		is(t, "alone, and others", filled(t, 1, one+"1;"), one, 2)
		is(t, "first", filled(t, 3, one+"1;"), one+"1;", 0)
		is(t, "between", filled(t, 3, "1"+one+";"), "1"+one+";", 0)
		is(t, "last", filled(t, 3, "1;"+one), "1;"+one, 0)
		is(t, "beyond", filled(t, 3, "1;2"+one), "1;2", 1)
		is(t, "often", filled(t, most64, strings.Repeat(one, 100)), strings.Repeat(one, most64), 36)
	}
}

// P10.1: pushes and resets in every order, told by a text; `R` is a Reset.
func TestPushAndResetInEveryOrder(t *testing.T) {
	for _, calls := range texts("1;R", 7) {
		for most := 1; most <= 4; most++ {
			b, want, lost := none(t, most), "", 0
			for i := range len(calls) {
				switch {
				case calls[i] == 'R':
					b.Reset()
					want, lost = "", 0
				case len(want) < most:
					if !b.Push(calls[i]) {
						t.Errorf("%q of most %d: Push at %d is refused", calls, most, i)
					}
					want += calls[i : i+1]
				default:
					if b.Push(calls[i]) {
						t.Errorf("%q of most %d: Push at %d is taken", calls, most, i)
					}
					lost++
				}
			}
			is(t, fmt.Sprintf("%q of most %d", calls, most), b, want, lost)
		}
	}
}

// P10.1: Reset of a buffer without bytes, and twice, and that the bound is as it was.
func TestReset(t *testing.T) {
	b := none(t, 3)
	b.Reset()
	is(t, "Reset of no bytes", b, "", 0)
	for _, s := range []string{"1;2;3", "", "9", "45;", "1;2;3;4;5"} {
		for i := range len(s) {
			b.Push(s[i])
		}
		is(t, s, b, s[:min(3, len(s))], max(0, len(s)-3))
		b.Reset()
		is(t, "Reset", b, "", 0)
		b.Reset()
		is(t, "Reset twice", b, "", 0)
		if l, ok := b.Numbers(); len(l) != 0 || !ok {
			t.Errorf("Numbers behind Reset: %v, %v", l, ok)
		}
	}
}

// P10.1: a nil buffer has no bytes, takes none, and loses none.
func TestNilBuffer(t *testing.T) {
	var b *params.Buffer
	for _, x := range []byte{'1', ';', 0, 255} {
		if b.Push(x) {
			t.Errorf("Push(%d) is taken", x)
		}
		is(t, "a nil buffer", b, "", 0)
	}
	b.Reset()
	is(t, "a nil buffer behind Reset", b, "", 0)
	if l, ok := b.Numbers(); len(l) != 0 || !ok {
		t.Errorf("Numbers: %v, %v", l, ok)
	}
}

// P10.1: Numbers of a buffer are those of its bytes, also of ones behind which some were lost, and turn nothing.
func TestNumbersOfBuffer(t *testing.T) {
	for _, s := range append(texts("07;x", 6), "1;;00042;77777", strings.Repeat("9", 100), strings.Repeat(";", 100), strings.Repeat("1;", 31)+"12", strings.Repeat("1;", 31)+"1x") {
		for _, most := range []int{1, 3, 5, 63, most64} {
			b, kept := filled(t, most, s), s[:min(most, len(s))]
			want, wantOK := params.Numbers(kept)
			l, ok := b.Numbers()
			if ok != wantOK || !slices.Equal(l, want) {
				t.Errorf("Numbers of a buffer of %q, of most %d: %v, %v, not %v, %v", s, most, l, ok, want, wantOK)
			}
			is(t, "behind Numbers", b, kept, len(s)-len(kept))
		}
	}
}

// R2: what a buffer answered is the caller's: it stays, whatever is pushed, and the buffer stays, whatever is written into it.
func TestAnswersOfBufferAreTheCallers(t *testing.T) {
	b := filled(t, 8, "1;2;3")
	bytes := b.Bytes()
	l, _ := b.Numbers()
	clear(l)
	is(t, "written into", b, "1;2;3", 0)
	l, _ = b.Numbers()
	b.Reset()
	for i := range len("789;789") {
		b.Push("789;789"[i])
	}
	if bytes != "1;2;3" || !slices.Equal(l, []int{1, 2, 3}) {
		t.Errorf("%q, %v behind other pushes", bytes, l)
	}
	is(t, "pushed anew", b, "789;789", 0)
}

// R3: each buffer is its own.
func TestBuffersAreTheirOwn(t *testing.T) {
	a, b := filled(t, 2, "1;2"), filled(t, 5, "44;")
	a.Reset()
	a.Push('7')
	is(t, "one", a, "7", 0)
	is(t, "another one", b, "44;", 0)
	b.Push('5')
	b.Push('6')
	b.Push('7')
	is(t, "one", a, "7", 0)
	is(t, "another one", b, "44;56", 1)
}
