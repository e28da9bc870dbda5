package queue_test

import (
	"math"
	"slices"
	"strings"
	"testing"

	"vizard/api"
	"vizard/queue"
)

// P11.1: each bound that may be, and that it is the bound.
func TestNew(t *testing.T) {
	for most := range most4096 + 1 {
		a := of(t, most)
		a.some(1)
		a.drain()
		a.push(row(most, 3))
		a.push("")
		a.push("x")
		a.drain()
		a.push(row(most+1, 3))
		a.some(1)
		a.drain()
	}
}

// P11.1
func TestNewOfBoundsThatMayNotBe(t *testing.T) {
	for _, most := range append([]int{-1, -2, -255, -256, -4095, -4096, -4097, 4097, 4098, 5000, 8192, 65536 + 5}, far...) {
		if q, e := queue.New(most); q != nil || e != api.ErrArg {
			t.Errorf("New(%d): %v, %d", most, q, int(e))
		}
	}
}

// P11.1: the chapter's example.
func TestExample(t *testing.T) {
	q := none(t, 3)
	if !q.Push("ab") || q.Push("cd") || q.Some(1) != "a" || !q.Push("cd") || q.Drain() != "bcd" {
		t.Error("not as the chapter says")
	}
}

// P11.1: no texts, empty ones, one, several, in order; and what is behind each call.
func TestPush(t *testing.T) {
	for _, l := range [][]string{
		nil, {}, {""}, {"", "", ""}, {"a"}, {"abc"}, {"a", "b"}, {"b", "a"}, {"", "a"}, {"a", ""}, {"a", "", "b"}, {"ab", "", "", "cd", "e"},
		{"abcdefgh"}, {"abcd", "efgh"}, {"a", "b", "c", "d", "e", "f", "g", "h"}, {"aa", "a", "aaa"}, {"\x1b[", "24;80", "R"}, {"é", "世"}, {"\xff", "\x00"},
	} {
		for most := range 20 {
			a := of(t, most)
			a.push(l...)
			a.holds()
			a.push(l...)
			a.holds()
			a.some(2)
			a.push(l...)
			a.holds()
			a.drain()
			a.push(l...)
			a.drain()
		}
	}
}

// P11.1, P11.2: of each number of bytes that wait, wherever they stand, what just fits, and what is one byte too many, in one text and in several.
func TestPushOfWhatJustFits(t *testing.T) {
	for most := range 9 {
		for count := range most + 1 {
			for off := range most + 1 {
				for _, more := range []int{-1, 0, 1, 2, most} {
					size := max(0, most-count+more)
					for cut := range size + 1 {
						s := row(size, 100)
						for _, l := range [][]string{{s}, {s[:cut], s[cut:]}, {s[:cut/2], s[cut/2 : cut], s[cut:]}, {"", s[:cut], "", s[cut:], ""}, strings.Split(s, "")} {
							a := at(t, most, off, count)
							a.push(l...)
							a.holds()
							a.push()
							a.push("z")
							a.drain()
						}
					}
				}
			}
		}
	}
}

// P11.1: likewise of bounds about which a part of an int would wrap round, and of the greatest.
func TestPushOfWhatJustFitsInMuch(t *testing.T) {
	for _, most := range []int{127, 128, 129, 255, 256, 257, 511, 512, 1000, 2048, 4095, most4096} {
		for _, count := range []int{0, 1, most / 2, most - 1, most} {
			for _, more := range []int{-1, 0, 1, 255, 256, most4096, 65536, 65536 - 1, 65536 + 1} {
				for _, parts := range []int{1, 2, 3, 17} {
					s := row(max(0, most-count+more), 50)
					var l []string
					for i := range parts {
						l = append(l, s[len(s)*i/parts:len(s)*(i+1)/parts])
					}
					a := at(t, most, 5, count)
					a.push(l...)
					a.holds()
					a.some(3)
					a.push("abc")
					a.drain()
				}
			}
		}
	}
}

// P11.1, P11.2: of texts of which one is too many none is taken, wherever that stands, also where the others would fit.
func TestPushRefusedWhole(t *testing.T) {
	for place := range 5 {
		for _, long := range []int{5, 6, 100, 5000, 1 << 16, 1<<16 + 1, 1 << 20} {
			l := []string{"a", "b", "", "c", "d"}
			l[place] = strings.Repeat("x", long)
			for off := range 7 {
				for _, count := range []int{0, 1, 2, 5, 6} {
					a := at(t, 6, off, count)
					a.push(l...)
					a.holds()
					a.some(1)
					a.push("y")
					a.drain()
				}
			}
		}
	}
}

// P11.1: texts that are too many by their number, or by far.
func TestPushOfFarTooMuch(t *testing.T) {
	long := strings.Repeat("long", 1<<18)
	for _, most := range []int{0, 1, 5, 255, most4096} {
		for _, l := range [][]string{
			{long}, {long, long}, slices.Repeat([]string{long}, 64), slices.Repeat([]string{"x"}, most+1), slices.Repeat([]string{"x"}, 70000), slices.Repeat([]string{row(256, 0)}, 256), {long[:65536]}, {long[:65536], "a"},
			append(slices.Repeat([]string{"", ""}, 40000), long), append([]string{long}, slices.Repeat([]string{""}, 40000)...), {long[:most], long[:1]}, {long[:1], long[:most]},
		} {
			a := at(t, most, 0, most/2)
			a.push(l...)
			a.holds()
			a.push(slices.Repeat([]string{""}, 70000)...)
			a.push(slices.Repeat([]string{"x"}, most-most/2)...)
			a.drain()
		}
	}
}

// P11.1: each byte is taken as it is: alone, among others, and in texts that are no text of runes.
func TestPushOfAnyByte(t *testing.T) {
	all := make([]byte, 256)
	for x := range all {
		all[x] = byte(x)
		one := string(all[x : x+1])
		for _, l := range [][]string{{one}, {one, one}, {"a", one, "b"}, {one + "a" + one}, {"\xc3", one}, {one, "\x80"}, {"\x00" + one + "\x00"}} {
			a := of(t, 8)
			a.push(l...)
			a.some(1)
			a.push(l...)
			a.some(2)
			a.drain()
		}
	}
	a := of(t, most4096)
	for range 17 {
		a.push(string(all))
	}
	a.some(300)
	a.push(string(all[44:]))
	a.drain()
}

// P11.1: behind a Push that was refused one that fits is taken, and it is over nevertheless.
func TestPushBehindOneRefused(t *testing.T) {
	for most := range 7 {
		for count := range most + 1 {
			a := at(t, most, 2, count)
			a.push(row(most-count+1, 0))
			if !a.q.Over() || a.q.Len() != count {
				t.Errorf("of most %d with %d bytes: over %v, %d bytes", most, count, a.q.Over(), a.q.Len())
			}
			a.push()
			a.push("")
			a.push(row(most-count, 60))
			if !a.q.Over() || a.q.Len() != most {
				t.Errorf("of most %d: over %v, %d bytes", most, a.q.Over(), a.q.Len())
			}
			a.push("x")
			a.push("y", "z")
			a.some(1)
			a.push("w")
			a.push("v")
			a.drain()
			a.push(row(most, 5))
			a.drain()
		}
	}
}

// P11.1: numbers below 1, of fewer bytes than there are, of just as many, and of more, wherever the bytes stand.
func TestSome(t *testing.T) {
	for most := range 9 {
		for count := range most + 1 {
			for off := range most + 1 {
				for _, n := range append([]int{-3, -2, -1, 0, 1, 2, 3, 4, 5, 6, 7, 8, 9, 10, -count, count - 1, count + 1, 255, 256, 4096, 4097}, far...) {
					a := at(t, most, off, count)
					a.some(n)
					a.holds()
					a.some(1)
					a.some(n)
					a.push("x")
					a.some(n)
					a.drain()
				}
			}
		}
	}
}

// P11.1: likewise of many bytes.
func TestSomeOfMany(t *testing.T) {
	for _, n := range append([]int{-4096, -1, 0, 1, 2, 127, 128, 129, 255, 256, 257, 4094, 4095, 4096, 4097, 65536, 65537}, far...) {
		for _, off := range []int{0, 1, 2000, 4095} {
			a := at(t, most4096, off, most4096)
			a.push("one too many")
			a.some(n)
			a.holds()
			a.push(row(most4096-a.q.Len(), 1))
			a.some(n)
			a.some(n)
			a.drain()
			a.some(n)
		}
	}
}

// P11.1: Drain of a queue with and without bytes, over or not, and twice.
func TestDrain(t *testing.T) {
	for most := range 9 {
		for count := range most + 1 {
			for off := range most + 1 {
				for _, more := range []int{0, 1} {
					a := at(t, most, off, count)
					a.push(row((most-count+1)*more, 0))
					a.drain()
					a.drain()
					a.push(row(most, 9))
					a.push("x")
					a.drain()
					a.drain()
				}
			}
		}
	}
}

// P11.1: which calls leave that it is over, and which end it; with and without bytes.
func TestOver(t *testing.T) {
	calls := []struct {
		name string
		call func(q *queue.Queue)
		ends bool
	}{
		{"Some(0)", func(q *queue.Queue) { q.Some(0) }, false},
		{"Some(-1)", func(q *queue.Queue) { q.Some(-1) }, false},
		{"Some(1)", func(q *queue.Queue) { q.Some(1) }, false},
		{"Some of all", func(q *queue.Queue) { q.Some(math.MaxInt) }, false},
		{"Push of nothing", func(q *queue.Queue) { q.Push() }, false},
		{"Push of an empty text", func(q *queue.Queue) { q.Push("") }, false},
		{"Push that is taken", func(q *queue.Queue) { q.Push("a") }, false},
		{"Push that is refused", func(q *queue.Queue) { q.Push("abcdef") }, false},
		{"Len", func(q *queue.Queue) { q.Len() }, false},
		{"Over", func(q *queue.Queue) { q.Over() }, false},
		{"Copy", func(q *queue.Queue) { q.Copy() }, false},
		{"Drain of a copy", func(q *queue.Queue) { q.Copy().Drain() }, false},
		{"Clear of a copy", func(q *queue.Queue) { q.Copy().Clear() }, false},
		{"Drain", func(q *queue.Queue) { q.Drain() }, true},
		{"Clear", func(q *queue.Queue) { q.Clear() }, true},
	}
	for _, c := range calls {
		for _, first := range []string{"", "xy", "wxyz"} {
			q := none(t, 5)
			q.Push(first)
			if q.Over() {
				t.Errorf("over behind Push(%q)", first)
			}
			q.Push("ABCDEF")
			c.call(q)
			if q.Over() == c.ends {
				t.Errorf("behind %s, with %q: over %v", c.name, first, q.Over())
			}
			q.Push("ABCDEF")
			if !q.Over() {
				t.Errorf("behind %s, and a Push that was refused: not over", c.name)
			}
		}
	}
}

// P11.1: no call but a Push that is refused lets a queue be over; a full one is not so.
func TestOverOfWhatFits(t *testing.T) {
	for most := range 9 {
		for count := range most + 1 {
			a := at(t, most, 1, 0)
			if most == 0 {
				a.clear() // there is room for nothing, so that what led there was refused
			}
			a.push(row(count, 0))
			a.push(row(most-count, 0))
			a.push()
			a.push("", "")
			a.some(0)
			a.some(most + 1)
			a.drain()
			a.copied().clear()
			if a.q.Over() {
				t.Errorf("of most %d: over", most)
			}
		}
	}
}

// P11.1: Clear of a queue with and without bytes, over or not, and that the bound is as it was.
func TestClear(t *testing.T) {
	for most := range 9 {
		for count := range most + 1 {
			for off := range most + 1 {
				for _, more := range []int{0, 1} {
					a := at(t, most, off, count)
					a.push(row((most-count+1)*more, 0))
					a.clear()
					a.holds()
					a.some(1)
					a.clear()
					a.push(row(most, 9))
					a.push("x")
					a.some(most / 2)
					a.clear()
					a.push(row(most+1, 9))
					a.push(row(most, 4))
					a.drain()
				}
			}
		}
	}
}

// P11.1: a copy of each queue is the same, and then each of the two goes its own way.
func TestCopy(t *testing.T) {
	for most := range 7 {
		for count := range most + 1 {
			for off := range most + 1 {
				for _, more := range []int{0, 1} {
					a := at(t, most, off, count)
					a.push(row((most-count+1)*more, 0))
					apart(a, a.copied())
					b := at(t, most, off, count)
					b.push(row((most-count+1)*more, 0))
					apart(b.copied(), b)
				}
			}
		}
	}
	a := at(t, most4096, 100, most4096)
	apart(a, a.copied().copied())
}

// apart calls one of two queues in many ways, and holds both against what they should be.
func apart(a, b *pair) {
	a.t.Helper()
	for _, c := range []func(){
		func() { a.some(1) }, func() { a.push("P") }, func() { a.push("Q") }, func() { b.push("R") }, func() { b.some(2) }, func() { b.push("S", "T") },
		func() { a.clear() }, func() { a.push("U") }, func() { b.push(row(b.p.most+1, 0)) }, func() { a.drain() }, func() { a.push(row(a.p.most, 200)) }, func() { b.drain() }, func() { b.push("V") },
	} {
		c()
		a.holds()
		b.holds()
	}
	a.drain()
	b.drain()
}

// P11.1: a nil queue has no bytes, takes none, and is never over.
func TestNilQueue(t *testing.T) {
	var q *queue.Queue
	for _, l := range [][]string{nil, {}, {""}, {"a"}, {"a", "b"}, {strings.Repeat("x", 5000)}} {
		if q.Push(l...) {
			t.Errorf("Push of %d texts is taken", len(l))
		}
		if q.Len() != 0 || q.Over() {
			t.Errorf("behind Push: %d bytes, over %v", q.Len(), q.Over())
		}
	}
	for _, n := range append([]int{-1, 0, 1, 4096}, far...) {
		if s := q.Some(n); s != "" {
			t.Errorf("Some(%d): %q", n, s)
		}
	}
	if s := q.Drain(); s != "" {
		t.Errorf("Drain: %q", s)
	}
	q.Clear()
	if q.Len() != 0 || q.Over() || q.Copy() != nil {
		t.Errorf("behind Clear: %d bytes, over %v, a copy %v", q.Len(), q.Over(), q.Copy())
	}
}
