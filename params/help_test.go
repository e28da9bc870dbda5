package params_test

import (
	"math"
	"slices"
	"strconv"
	"strings"
	"testing"

	"vizard/api"
	"vizard/params"
)

// most64 is how many bytes there may be at the most, and most9999 how great a number: written out, so that api's are held against them.
const (
	most64   = 64
	most9999 = 9999
)

// far is numbers that are far off every place, and every number of bytes.
var far = []int{
	256, 257, 1 << 31, -1 << 31, 1 << 32, 1<<32 + 1, 1<<32 + 3, -1<<32 + 3, 1 << 62, -1 << 62,
	math.MaxInt, math.MaxInt - 1, math.MinInt, math.MinInt + 1,
}

// told is a text, and what its numbers are; bad is whether it is not of numbers.
type told struct {
	s    string
	want []int
	bad  bool
}

// check fails unless Numbers of the text is so, and that of a buffer, if it holds the text.
func (c told) check(t *testing.T) {
	t.Helper()
	l, ok := params.Numbers(c.s)
	if ok == c.bad || !slices.Equal(l, c.want) {
		t.Errorf("Numbers(%q): %v, %v, not %v, %v", brief(c.s), l, ok, c.want, !c.bad)
	}
	if len(c.s) > most64 {
		return
	}
	l, ok = filled(t, most64, c.s).Numbers()
	if ok == c.bad || !slices.Equal(l, c.want) {
		t.Errorf("Numbers of a buffer of %q: %v, %v, not %v, %v", c.s, l, ok, c.want, !c.bad)
	}
}

// brief is a text, but for the middle of a long one.
func brief(s string) string {
	if len(s) <= 100 {
		return s
	}
	return s[:50] + ".." + s[len(s)-50:]
}

// plainly is what a text's numbers are, told by its words: without noughts ahead, and by how long they are.
func plainly(s string) told {
	c := told{s: s}
	if s == "" {
		return c
	}
	if strings.Trim(s, "0123456789;") != "" {
		c.bad = true
		return c
	}
	for _, part := range strings.Split(s, ";") {
		digits := strings.TrimLeft(part, "0")
		switch {
		case part == "":
			c.want = append(c.want, -1)
		case digits == "":
			c.want = append(c.want, 0)
		case len(digits) > 4:
			c.want = append(c.want, most9999)
		default:
			n, _ := strconv.Atoi(digits)
			c.want = append(c.want, n)
		}
	}
	return c
}

// texts is all texts of so many of these bytes, and of fewer.
func texts(bytes string, most int) []string {
	all := []string{""}
	for last := all; most > 0; most-- {
		var next []string
		for _, s := range last {
			for i := range len(bytes) {
				next = append(next, s+bytes[i:i+1])
			}
		}
		all = append(all, next...)
		last = next
	}
	return all
}

// none is a buffer without bytes, of a bound.
func none(t *testing.T, most int) *params.Buffer {
	t.Helper()
	b, e := params.New(most)
	if b == nil || e != api.OK {
		t.Fatalf("New(%d): %v, %d", most, b, int(e))
	}
	return b
}

// filled is a buffer to which the bytes of a text were pushed.
func filled(t *testing.T, most int, s string) *params.Buffer {
	t.Helper()
	b := none(t, most)
	for i := range len(s) {
		if b.Push(s[i]) != (i < most) {
			t.Fatalf("Push of the %dth byte of %q, of most %d", i, s, most)
		}
	}
	return b
}

// is fails unless a buffer has just these bytes, and so many are lost.
func is(t *testing.T, what string, b *params.Buffer, bytes string, lost int) {
	t.Helper()
	if b.Bytes() != bytes || b.Len() != len(bytes) || b.Lost() != lost {
		t.Errorf("%s: %q, %d, lost %d; not %q, %d, lost %d", what, b.Bytes(), b.Len(), b.Lost(), bytes, len(bytes), lost)
	}
}
