package attr_test

import (
	"math"
	"strconv"
	"strings"

	"vizard/api"
)

// The numbers of the chapter, written out so that the package's are held against them.
const (
	bold    = 1
	dim     = 2
	under   = 4
	blink   = 8
	reverse = 16
	hidden  = 32
	colour  = 64
	fore    = 256
	back    = 2048
)

// looks is attributes that may be, and what they are made of.
type looks struct {
	a          int
	coloured   bool
	fore, back int // 7 and 0 where there are none
	names      string
}

// personalities is each of them, and numbers that are none.
var personalities = []int{api.VT52, api.Ansi, api.Wyse, api.ADM, 0, -1, 5, 6, 258, math.MinInt, math.MaxInt}

// plainWords is the words without a colour, by their bits.
var plainWords = []string{"bold", "dim", "under", "blink", "reverse", "hidden"}

// allLooks is all attributes that may be: each choice of the words, without colours and with each two.
func allLooks() []looks {
	var all []looks
	for bits := range 64 {
		var told []string
		for i, w := range plainWords {
			if bits>>i&1 == 1 {
				told = append(told, w)
			}
		}
		names := strings.Join(told, ",")
		if bits == 0 {
			names = "plain"
		}
		all = append(all, looks{a: bits, fore: 7, back: 0, names: names})
		for f := range 8 {
			for b := range 8 {
				colours := append(append([]string(nil), told...), "fore="+strconv.Itoa(f), "back="+strconv.Itoa(b))
				all = append(all, looks{bits + colour + f*fore + b*back, true, f, b, strings.Join(colours, ",")})
			}
		}
	}
	return all
}

// noLooks is numbers that may not be attributes: a bit that no word names, colours without Colour, what is above the colours, and what is below 0.
func noLooks() []int {
	no := []int{
		128, 128 + 64, 128 + 1, 255, fore, back, 7 * fore, 7 * back, fore + 63, back + hidden, 7*fore + 7*back,
		1 << 14, 1<<14 + 1, 1<<14 + 64, 1<<14 - 1, 1<<14 - 1 - 64, 8 * back, 8*back + 64, 1 << 15, 1 << 31, 1 << 32, 1<<32 + 1, 1<<62 + 64,
		-1, -2, -64, -128, -1 << 14, -1 << 32, math.MinInt, math.MinInt + 1, math.MinInt + 64, math.MaxInt, math.MaxInt - 128,
	}
	for f := 1; f < 8; f++ {
		no = append(no, f*fore, f*back, f*fore+f*back, f*fore+63)
	}
	return no
}
