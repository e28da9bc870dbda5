package params_test

import (
	"math"
	"slices"
	"strconv"
	"strings"
	"testing"

	"vizard/params"
)

// P10.2: the words of the chapter, and its example.
func TestNumbers(t *testing.T) {
	for _, c := range []told{
		{s: ""}, {s: ";", want: []int{-1, -1}}, {s: ";;", want: []int{-1, -1, -1}},
		{s: "0", want: []int{0}}, {s: "5", want: []int{5}}, {s: "10", want: []int{10}}, {s: "1234", want: []int{1234}},
		{s: "00042", want: []int{42}}, {s: "0000000000000000000000000000007", want: []int{7}}, {s: "0009999", want: []int{9999}}, {s: "00010000", want: []int{9999}},
		{s: "00", want: []int{0}}, {s: strings.Repeat("0", 60), want: []int{0}}, {s: "00;000", want: []int{0, 0}},
		{s: ";5", want: []int{-1, 5}}, {s: "5;", want: []int{5, -1}}, {s: ";5;", want: []int{-1, 5, -1}}, {s: "5;;6", want: []int{5, -1, 6}},
		{s: "1;2", want: []int{1, 2}}, {s: "2;1", want: []int{2, 1}}, {s: "7;7;7", want: []int{7, 7, 7}}, {s: "0;00;;01", want: []int{0, 0, -1, 1}},
		{s: "1;;00042;77777", want: []int{1, -1, 42, 9999}}, {s: "10000;3", want: []int{9999, 3}}, {s: "0;1;2;3;4;5;6;7;8;9", want: []int{0, 1, 2, 3, 4, 5, 6, 7, 8, 9}},
	} {
		c.check(t)
	}
}

// P10.2, P10.3: each number up to the greatest one and beyond it, alone and among others.
func TestNumbersUpToTheGreatest(t *testing.T) {
	for n := range 12000 {
		digits, want := strconv.Itoa(n), min(n, most9999)
		told{s: digits, want: []int{want}}.check(t)
		told{s: "3;0" + digits + ";", want: []int{3, want, -1}}.check(t)
	}
}

// P10.2, P10.3: numbers of which an int, or a part of it, would wrap round.
func TestNumbersFarGreaterThanAnInt(t *testing.T) {
	for _, digits := range []string{
		"10000", "10001", "32768", "65535", "65536", "65537", "99999", "100000", "1000000", "2147483647", "2147483648", "4294967295", "4294967296", "4294967301",
		"9223372036854775807", "9223372036854775808", "9223372036854775813", "18446744073709551615", "18446744073709551616", "18446744073709551621", "123456789012345678901234567890",
		"1" + strings.Repeat("0", 61), "10000" + strings.Repeat("0", 64), strings.Repeat("9", 64), strings.Repeat("9", 5000), strings.Repeat("0", 5000) + "10000", "1" + strings.Repeat("0", 5000),
	} {
		told{s: digits, want: []int{9999}}.check(t)
		told{s: "1;" + digits + ";;2", want: []int{1, 9999, -1, 2}}.check(t)
	}
	told{s: strings.Repeat("0", 5000), want: []int{0}}.check(t)
	told{s: strings.Repeat("0", 5000) + "9998", want: []int{9998}}.check(t)
}

// P10.2: each other byte, wherever it stands, also where there is nothing else.
func TestNumbersOfOtherBytes(t *testing.T) {
	for x := range 256 {
		if x >= '0' && x <= '9' || x == ';' {
			continue
		}
		for _, s := range []string{"", "1", ";", "12", "1;2", ";;", "12;;34", "99999999999999999999", "1;2;3;4;5;6;7;8;9"} {
			for at := range len(s) + 1 {
				told{s: s[:at] + string([]byte{byte(x)}) + s[at:], bad: true}.check(t)
			}
		}
	}
}

// P10.2: what other readers of numbers would take, and no one here does.
func TestNumbersThatOthersWouldTake(t *testing.T) {
	for _, s := range []string{
		"-1", "+1", "-", " ", " 1", "1 ", "1; 2", "1\n", "\t1", "1_0", "0x1", "0b1", "0o7", "1e3", "1.5", "1,2", "1:2", "?7", "=7", "1;-2", "1;+2", "1;a", "a;1", "1a", "a1",
		"1\x00", "\x00", "1;2\x00", "\x7f", "\x80", "1\xff", "1\xbb2", "\xb1", "\xb0;\xb9", "1\xc2\xa0", "é", "٣", "１", "1；2", "²", "½", "世", "\xed\xa0\x80",
	} {
		told{s: s, bad: true}.check(t)
	}
}

// P10.2, P10.3: all short texts of digits, `;` and others.
func TestNumbersOfAllShortTexts(t *testing.T) {
	for _, s := range append(texts("019;x-", 6), texts("09;", 9)...) {
		c := plainly(s)
		c.check(t)
		l, ok := params.Numbers(s)
		if ok && s != "" && len(l) != strings.Count(s, ";")+1 {
			t.Errorf("Numbers(%q): %d numbers", s, len(l))
		}
		for _, n := range l {
			if n > most9999 || n < -1 {
				t.Errorf("Numbers(%q): %d", s, n)
			}
		}
	}
}

// P10.2, P10.3: texts far longer than a buffer.
func TestNumbersOfLongTexts(t *testing.T) {
	for _, count := range []int{0, 1, 2, 63, 64, 65, 255, 1000, 70000} {
		semis := strings.Repeat(";", count)
		if count > 0 {
			told{s: semis, want: slices.Repeat([]int{-1}, count+1)}.check(t)
			told{s: semis + "x", bad: true}.check(t)
			told{s: "x" + semis, bad: true}.check(t)
		}
		told{s: semis + "3", want: append(slices.Repeat([]int{-1}, count), 3)}.check(t)
		told{s: strings.Repeat("12;", count) + "77777", want: append(slices.Repeat([]int{12}, count), 9999)}.check(t)
		told{s: strings.Repeat("12;", count) + "x" + strings.Repeat(";12", count), bad: true}.check(t)
	}
}

// R2, R3: what is answered is the caller's, and a new one each time.
func TestNumbersAreTheCallers(t *testing.T) {
	l, _ := params.Numbers("1;2;3")
	other, _ := params.Numbers("1;2;3")
	clear(l)
	_ = append(l[:1], 8)
	again, ok := params.Numbers("1;2;3")
	if want := []int{1, 2, 3}; !slices.Equal(other, want) || !slices.Equal(again, want) || !ok {
		t.Errorf("%v, %v", other, again)
	}
}

// P10.2: the chapter's example, and each place of numbers that are told, that are not, and that are 0.
func TestOr(t *testing.T) {
	l, _ := params.Numbers("1;;00042;77777")
	for at, want := range []int{1, 5, 42, 9999} {
		if n := params.Or(l, at, 5); n != want {
			t.Errorf("Or(%v, %d, 5): %d", l, at, n)
		}
	}
	for _, number := range []int{0, 1, 2, 9998, 9999, 10000, 1 << 40, math.MaxInt, -1, -2, -9999, -1 << 40, math.MinInt} {
		for _, other := range []int{0, 1, 5, -1, -7, 9999, math.MaxInt, math.MinInt} {
			want := number
			if number < 0 {
				want = other
			}
			for _, l := range [][]int{{number}, {number, 3}, {3, number}, {-1, number, -1}, {4, 5, number}} {
				at := slices.Index(l, number)
				if n := params.Or(l, at, other); n != want {
					t.Errorf("Or(%v, %d, %d): %d", l, at, other, n)
				}
			}
		}
	}
}

// P10.2: places that are not there, of no numbers, of one and of many, also where there is room behind the last one.
func TestOrOfPlacesThatAreNotThere(t *testing.T) {
	roomy := []int{1, 2, 3, 4, 5}
	for _, l := range [][]int{nil, {}, {3}, {-1}, {1, 2}, roomy[:3], roomy[:0], slices.Repeat([]int{4}, 300)} {
		for _, at := range append([]int{-1, -2, -len(l), -len(l) - 1, len(l), len(l) + 1, 1000}, far...) {
			if at >= 0 && at < len(l) {
				continue
			}
			for _, other := range []int{0, 8, -1, -3, math.MaxInt, math.MinInt} {
				if n := params.Or(l, at, other); n != other {
					t.Errorf("Or of %d numbers, %d, %d: %d", len(l), at, other, n)
				}
			}
		}
	}
}

// R2: the list that is handed in is not written into, nor what stands behind it.
func TestOrLeavesItsList(t *testing.T) {
	l := []int{3, -1, 0, 7, -1}
	for at := -1; at <= len(l); at++ {
		params.Or(l[:3], at, 8)
	}
	if !slices.Equal(l, []int{3, -1, 0, 7, -1}) {
		t.Error(l)
	}
}
