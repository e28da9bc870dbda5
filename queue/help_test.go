package queue_test

import (
	"fmt"
	"iter"
	"math"
	"strconv"
	"strings"
	"testing"

	"vizard/api"
	"vizard/queue"
)

// most4096 is how many bytes there may be at the most, written out, so that api's is held against it.
const most4096 = 4096

// far is numbers that are far off every number of bytes, also where a part of an int would wrap round.
var far = []int{
	1 << 15, 1 << 16, 1<<16 + 1, -1 << 16, -1<<16 + 2, 1 << 31, 1<<31 - 1, -1 << 31, 1 << 32, 1<<32 + 1, 1<<32 + 3, -1<<32 + 3, 1<<32 + 4096, 1 << 62, -1 << 62,
	math.MaxInt, math.MaxInt - 1, math.MinInt, math.MinInt + 1,
}

// plain is a queue as its words tell it.
type plain struct {
	most  int
	bytes string
	over  bool
}

// push is what Push answers, and turns.
func (p *plain) push(l []string) bool {
	all := strings.Join(l, "")
	if len(p.bytes)+len(all) > p.most {
		p.over = true
		return false
	}
	p.bytes += all
	return true
}

// some is what Some answers, and turns.
func (p *plain) some(n int) string {
	n = max(0, min(n, len(p.bytes)))
	s := p.bytes[:n]
	p.bytes = p.bytes[n:]
	return s
}

// pair is a queue, and what it should be; both are called alike.
type pair struct {
	t     *testing.T
	q     *queue.Queue
	p     plain
	calls string // what was called, for what is told of a fault
}

// of is a pair without bytes.
func of(t *testing.T, most int) *pair {
	t.Helper()
	a := &pair{t: t, q: none(t, most), p: plain{most: most}, calls: fmt.Sprintf("New(%d)", most)}
	a.is()
	return a
}

// none is a queue without bytes.
func none(t *testing.T, most int) *queue.Queue {
	t.Helper()
	q, e := queue.New(most)
	if q == nil || e != api.OK {
		t.Fatalf("New(%d): %v, %d", most, q, int(e))
	}
	return q
}

// push calls Push.
func (a *pair) push(l ...string) {
	a.t.Helper()
	a.called("Push", len(l))
	if got, want := a.q.Push(l...), a.p.push(l); got != want {
		a.t.Fatalf("%s: Push of %s is %v", a.calls, brief(strings.Join(l, "|")), got)
	}
	a.is()
}

// some calls Some.
func (a *pair) some(n int) {
	a.t.Helper()
	a.called("Some", n)
	a.fetched(a.q.Some(n), a.p.some(n))
}

// drain calls Drain.
func (a *pair) drain() {
	a.t.Helper()
	a.called("Drain", 0)
	want := a.p.bytes
	a.p = plain{most: a.p.most}
	a.fetched(a.q.Drain(), want)
}

// clear calls Clear.
func (a *pair) clear() {
	a.t.Helper()
	a.called("Clear", 0)
	a.p = plain{most: a.p.most}
	a.q.Clear()
	a.is()
}

// copied is a pair of its own, that goes on from a copy.
func (a *pair) copied() *pair {
	a.t.Helper()
	a.called("Copy", 0)
	c := *a
	c.q = a.q.Copy()
	if c.q == nil || c.q == a.q {
		a.t.Fatalf("%s: no queue of its own", a.calls)
	}
	a.is()
	c.is()
	return &c
}

// holds fails unless all bytes are there, in order, without taking them out of the queue.
func (a *pair) holds() {
	a.t.Helper()
	if got := a.q.Copy().Drain(); got != a.p.bytes {
		a.t.Fatalf("%s: has %s, not %s", a.calls, brief(got), brief(a.p.bytes))
	}
	a.is()
}

// fetched fails unless what was fetched is right, and what is left.
func (a *pair) fetched(got, want string) {
	a.t.Helper()
	if got != want {
		a.t.Fatalf("%s: %s, not %s", a.calls, brief(got), brief(want))
	}
	a.is()
}

// is fails unless there are as many bytes as should be, and it is over if it should be.
func (a *pair) is() {
	a.t.Helper()
	if n, over := a.q.Len(), a.q.Over(); n != len(a.p.bytes) || over != a.p.over {
		a.t.Fatalf("%s: %d bytes, over %v; not %d, %v", a.calls, n, over, len(a.p.bytes), a.p.over)
	}
}

// called keeps what is called; of very many calls the last ones.
func (a *pair) called(name string, n int) {
	if len(a.calls) > 200 {
		a.calls = ".." + a.calls[150:]
	}
	a.calls += " " + name + "(" + strconv.Itoa(n) + ")"
}

// at is a pair with so many bytes, ahead of which so many others were pushed and fetched, one by one.
func at(t *testing.T, most, off, count int) *pair {
	t.Helper()
	a := of(t, most)
	for range off {
		a.push("-")
		a.some(1)
	}
	a.push(row(count, 7))
	return a
}

// row is so many bytes of all kinds, of which those that are near each other differ.
func row(count, first int) string {
	l := make([]byte, count)
	for i := range l {
		l[i] = byte(first + i*11 + i/256)
	}
	return string(l)
}

// orders is all rows of so many numbers below a bound; each is good till the next one comes.
func orders(bound, length int) iter.Seq[[]int] {
	return func(yield func([]int) bool) {
		for order := make([]int, length); yield(order); {
			place := 0
			for place < length && order[place] == bound-1 {
				order[place] = 0
				place++
			}
			if place == length {
				return
			}
			order[place]++
		}
	}
}

// brief is a text, but for the middle of a long one.
func brief(s string) string {
	if len(s) <= 60 {
		return fmt.Sprintf("%q", s)
	}
	return fmt.Sprintf("%q..%q (%d bytes)", s[:30], s[len(s)-30:], len(s))
}
