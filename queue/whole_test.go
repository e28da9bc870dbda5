package queue_test

import (
	"slices"
	"strings"
	"testing"
)

// P11.1, P11.2: calls in every order, of small bounds; each text that is pushed has bytes of its own.
func TestCallsInEveryOrder(t *testing.T) {
	next := 0
	text := func(count int) string {
		next += count
		return row(count, next)
	}
	calls := []func(a *pair){
		func(a *pair) { a.push() },
		func(a *pair) { a.push(text(1)) },
		func(a *pair) { a.push(text(1), "", text(1)) },
		func(a *pair) { a.push(text(3)) },
		func(a *pair) { a.some(0) },
		func(a *pair) { a.some(1) },
		func(a *pair) { a.some(2) },
		func(a *pair) { a.drain() },
		func(a *pair) { a.clear() },
		func(a *pair) { *a = *a.copied() },
	}
	for most := range 5 {
		for order := range orders(len(calls), 4) {
			a := of(t, most)
			for _, number := range order {
				calls[number](a)
			}
			a.holds()
			a.some(1)
			a.drain()
		}
	}
}

// P11.1, P11.2: likewise longer rows of the calls that turn most.
func TestPushAndSomeInEveryOrder(t *testing.T) {
	for most := 1; most <= 4; most++ {
		for order := range orders(4, 7) {
			a := of(t, most)
			for i, number := range order {
				switch number {
				case 0:
					a.push(row(1, i))
				case 1:
					a.push(row(1, i), row(1, i+100))
				case 2:
					a.some(1)
				case 3:
					a.some(2)
				}
			}
			a.drain()
		}
	}
}

// P11.2: far more bytes go through than the bound, by steps of each kind: all come out, in order, each once.
func TestFarMoreBytesThanTheBound(t *testing.T) {
	for _, most := range []int{1, 2, 3, 5, 7, 8, 63, 64, 127, 128, 255, 256, 257, 1000, 1023, 4095, most4096} {
		for _, steps := range [][]int{{1}, {2, 1}, {most}, {most/2 + 1}, {1, most}, {3, 0, 5, 1, 250}, {most/3 + 1, 2, most - 1}, {most + 1, 1}} {
			flow(t, most, steps, false)
			flow(t, most, steps, true)
		}
	}
}

// flow lets bytes through a queue by steps of some lengths, fetching by others, and now and then all.
func flow(t *testing.T, most int, steps []int, drains bool) {
	t.Helper()
	q := none(t, most)
	var in, out strings.Builder
	// Bounded by rounds, too, for of steps that are all too great nothing goes through.
	for i := 0; in.Len() < 6*most+300 && i < 20*most+1000; i++ {
		count := steps[i%len(steps)]
		s := row(count, in.Len()*3+i)
		if q.Push(s[:count/3], s[count/3:]) {
			in.WriteString(s)
		} else if q.Len()+count <= most {
			t.Fatalf("of most %d with %d bytes: %d more are refused", most, q.Len(), count)
		}
		if n := q.Len(); n > most || n != in.Len()-out.Len() {
			t.Fatalf("of most %d: %d bytes, where %d went in, and %d out", most, n, in.Len(), out.Len())
		}
		if drains && i%5 == 4 {
			out.WriteString(q.Drain())
		} else {
			out.WriteString(q.Some(steps[(i+1)%len(steps)]))
		}
	}
	out.WriteString(q.Some(1))
	out.WriteString(q.Drain())
	if in.String() != out.String() {
		t.Errorf("of most %d by steps %v: %s came out, not %s", most, steps, brief(out.String()), brief(in.String()))
	}
}

// P11.2: it does not count how bytes are fetched: by ones, by twos, or all, the same come out.
func TestFetchedInAnyWay(t *testing.T) {
	for _, off := range []int{0, 1, 5, 8} {
		for count := range 10 {
			want := row(count, 7)
			for first := range count + 2 {
				for n := 1; n <= count+1; n++ {
					q := at(t, 9, off, count).q
					got := q.Some(first)
					for q.Len() > n {
						got += q.Some(n)
					}
					if got += q.Drain(); got != want {
						t.Errorf("%q, not %q", got, want)
					}
				}
			}
		}
	}
}

// R2: the texts that are handed in are not written into, nor what stands behind them, and they are not kept.
func TestTextsAreLeftAlone(t *testing.T) {
	l := []string{"a", "bc", "", "d", "behind", "it"}
	was := slices.Clone(l)
	q := none(t, 5)
	for _, want := range []bool{true, false} {
		if q.Push(l[:4]...) != want {
			t.Errorf("Push is %v", !want)
		}
		if !slices.Equal(l, was) {
			t.Errorf("%q, not %q", l, was)
		}
	}
	l[0], l[1], l[3] = "X", "YZ", "W"
	if s := q.Some(2); s != "ab" {
		t.Errorf("Some: %q", s)
	}
	clear(l)
	if s := q.Drain(); s != "cd" {
		t.Errorf("Drain: %q", s)
	}
}

// R2: what was fetched stays as it was, whatever is pushed behind it.
func TestWhatWasFetchedStays(t *testing.T) {
	q := none(t, 4)
	q.Push("abcd")
	some := q.Some(3)
	q.Push("efg")
	all := q.Drain()
	q.Push("XXXX")
	q.Some(2)
	q.Push("YY")
	if some != "abc" || all != "defg" {
		t.Errorf("%q, %q", some, all)
	}
}

// R3: a queue knows nothing of another one, made ahead of it or behind it.
func TestQueuesAreTheirOwn(t *testing.T) {
	a, b := of(t, 4), of(t, 2)
	a.push("abc")
	b.push("xyz")
	a.push("de")
	c := of(t, 4)
	c.push("1234")
	b.push("x")
	a.some(1)
	c.clear()
	for _, p := range []*pair{a, b, c} {
		p.holds()
		p.drain()
	}
}
