package vt52_test

import (
	"strings"
	"testing"

	"vizard/api"
	"vizard/queue"
	"vizard/vt52"
)

// fork is a rig that is the same, on a screen and a queue of its own.
func (r *rig) fork() *rig {
	r.t.Helper()
	c := *r
	c.s, c.q = r.s.Copy(), r.q.Copy()
	c.x, _ = vt52.On(c.s, c.q)
	c.want.cells = append([]api.Cell{}, r.want.cells...)
	return &c
}

// P12.1: each byte outside of a sequence, with Graph on and off, and behind each place of one, from each place, in the midst, at the edges and in the corners.
func TestEachByte(t *testing.T) {
	for _, z := range small {
		for _, from := range every(z) {
			r := of(t, z, from, 5)
			for _, ahead := range []string{"", "\x1bF", "\x1b", "\x1bY", "\x1bY!", "\x1bY\x1f"} {
				for _, text := range bytes() {
					r.fork().feed(ahead + text)
				}
			}
		}
	}
}

// P12.1: each byte of a row with each byte of a column.
func TestEachPairOfBytes(t *testing.T) {
	for _, z := range []api.Size{size(1, 1), size(3, 4)} {
		r := of(t, z, pos(z.Rows/2, z.Cols/2), 0)
		for _, row := range bytes() {
			for _, col := range bytes() {
				r.fork().feed("\x1bY" + row + col)
			}
		}
	}
}

// P12.1: each pair of bytes does outside of a sequence what both do, one behind the other.
func TestPairsOutside(t *testing.T) {
	r := of(t, size(2, 3), pos(1, 1), 5)
	for _, first := range bytes() {
		for _, second := range bytes() {
			r.fork().feed(first + second + "x")
		}
	}
}

// words is bytes of each kind, and whole sequences, of which long texts are made.
var words = append([]string{
	"a", "Z", "~", "^", " ", "\b", "\t", "\n", "\r", "\n", "\x1b", "\x1b", "\x1b", "Y", "\x00", "\x7f", "\xff", "\x1f", "!", "#",
	"\x1bA", "\x1bB", "\x1bC", "\x1bD", "\x1bH", "\x1bI", "\x1bJ", "\x1bK", "\x1bF", "\x1bG", "\x1b=", "\x1b>", "\x1b[", "\x1b\\", "\x1bZ", "\x1bE", "\x1bY",
	"\x1bY! ", "\x1bY#\"", "\x1bY~~", "\x1bY\x1f!", "abc", "aéb", "\x1bFabcz", "hello\r\n",
}, bytes()...)

// text is so many of the words, others of each seed.
func text(count int, seed uint32) []string {
	var all []string
	for range count {
		seed = seed*1664525 + 1013904223
		all = append(all, words[seed>>8%uint32(len(words))])
	}
	return all
}

// P12.1, P12.3: whatever is fed does what it should, word by word; the cursor is on the screen, no more than three bytes are pending, and cells are glyphs alone.
func TestWhateverIsFed(t *testing.T) {
	for i, z := range append([]api.Size{size(24, 80)}, small...) {
		r := of(t, z, pos(0, 0), 50)
		count := 20000 / max(1, z.Rows*z.Cols/20)
		for _, word := range text(count, uint32(i)) {
			r.feed(word)
			bounded(t, r)
		}
	}
}

// bounded fails unless the cursor is on the screen, no more than three bytes are pending, and no cell is more than a glyph.
func bounded(t *testing.T, r *rig) {
	t.Helper()
	p, pends := r.s.Cursor()
	if p.Row < 0 || p.Row >= r.want.z.Rows || p.Col < 0 || p.Col >= r.want.z.Cols || pends {
		t.Fatalf("%s: the cursor is at %v, %v", r.brief(), p, pends)
	}
	if s := r.x.Pending(); len(s) > 3 {
		t.Fatalf("%s: %q is pending", r.brief(), s)
	}
	for _, row := range r.s.Rows() {
		for _, c := range row {
			if c.Attr != 0 || c.Guard || c.Mark != 0 {
				t.Fatalf("%s: %v", r.brief(), c)
			}
		}
	}
}

// P12.3: no more than three bytes are pending behind each byte, whatever is fed, on a screen with many rows and columns.
func TestPendingIsBounded(t *testing.T) {
	r := of(t, size(24, 80), pos(3, 5), 9)
	all := strings.Join(text(30000, 99), "")
	for i := range len(all) {
		r.x.Feed(all[i : i+1])
		if s := r.x.Pending(); len(s) > 3 || !strings.HasSuffix(all[:i+1], s) || s != "" && s[0] != 27 {
			t.Fatalf("behind %q: %q is pending", all[max(0, i-20):i+1], s)
		}
	}
}

// P12.3: it does not count how a short text is parted, in whichever of all ways.
func TestPartedInAllWays(t *testing.T) {
	for _, all := range []string{
		"", "a", "\x1bY!\"x", "\x1bY\x1bY!\x1fab", "\x1b\x1bFa\x1bGa\x1b", "\x1bZ\x1bZ\x1bY\xff\xff", "ab\n\n\n\x1bI\x1bIc", "\x1bKx\x1bDy\tz\b", "\x1bFé世\x1b", "\x1b\x00\x1bY\x1b\x1bJ",
	} {
		whole := of(t, size(3, 10), pos(1, 1), 5).feed(all)
		for cuts := range 1 << max(0, len(all)-1) {
			r := of(t, size(3, 10), pos(1, 1), 5)
			from := 0
			for end := 1; end <= len(all); end++ {
				if end == len(all) || cuts>>(end-1)&1 == 1 {
					r.feed(all[from:end])
					r.feed("")
					from = end
				}
			}
			agree(t, whole, r)
		}
	}
}

// P12.3: nor how a long one is: in one piece, byte by byte, or in pieces of some lengths.
func TestPartedLong(t *testing.T) {
	for i, z := range []api.Size{size(24, 80), size(3, 10), size(1, 1), size(5, 1)} {
		all := strings.Join(text(6000, uint32(100+i)), "")
		whole := of(t, z, pos(0, 0), 4096)
		whole.feed(all)
		for _, length := range []int{1, 2, 3, 7, 100, 4999} {
			r := of(t, z, pos(0, 0), 4096)
			for from := 0; from < len(all); from += length {
				r.x.Feed(all[from:min(len(all), from+length)])
			}
			agree(t, whole, r)
		}
	}
}

// agree fails unless two rigs show the same.
func agree(t *testing.T, a, b *rig) {
	t.Helper()
	p, _ := a.s.Cursor()
	q, _ := b.s.Cursor()
	if p != q || !same(a.s.Rows(), b.s.Rows()) || a.x.Modes() != b.x.Modes() || a.x.Pending() != b.x.Pending() {
		t.Fatalf("%q: %v, %v, %q, and %v, %v, %q", a.fed[:min(40, len(a.fed))], p, a.x.Modes(), a.x.Pending(), q, b.x.Modes(), b.x.Pending())
	}
	if waits(a.q) != waits(b.q) || a.q.Over() != b.q.Over() {
		t.Fatalf("%q and %q wait", waits(a.q), waits(b.q))
	}
}

// waits is the bytes of a queue, which has them still.
func waits(q *queue.Queue) string { return q.Copy().Drain() }

// P12.1: far more bytes than a screen has cells, in one call.
func TestVeryLong(t *testing.T) {
	r := of(t, size(4, 9), pos(0, 0), 4096)
	r.feed(strings.Repeat("hello\r\n\x1bY!!\x1bFaz\x1bG\x1bA\t.\x1bZ\x1b", 40000))
	r.feed("Ax")
}
