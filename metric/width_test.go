package metric

import (
	"math"
	"strings"
	"testing"

	"inkstand/api"
	"inkstand/fix"
)

// P13.3

// everyByte is a text of each byte once.
func everyByte() string {
	var b []byte
	for n := range 256 {
		b = append(b, byte(n))
	}
	return string(b)
}

func TestWidth(t *testing.T) {
	helvetica := standard("Helvetica")
	checkWidth(t, helvetica, "A ", 945)
	checkWidth(t, helvetica, "", 0)
	checkWidth(t, helvetica, "A", 667)
	checkWidth(t, helvetica, " A", 945)
	checkWidth(t, helvetica, "AAA", 2001)
	checkWidth(t, helvetica, "Hello, world!", 722+556+222+222+556+278+278+722+556+333+222+556+278)
	// Bytes, not characters.
	checkWidth(t, helvetica, "ä", 1112)
	checkWidth(t, helvetica, "\xe4", 556)
	checkWidth(t, helvetica, "\xff\xfe", 1112)
	checkWidth(t, standard("Times-Roman"), "A ", 972)
	checkWidth(t, standard("Courier"), "A ", 1200)
	checkWidth(t, standard("Courier"), "", 0)
	checkWidth(t, Font{}, everyByte(), 0)
	// Both ends of the widths, and what stands outside of them.
	own := Font{First: 65, Widths: []int{1, 20, 300}, Other: 5000}
	for s, want := range map[string]int{"": 0, "A": 1, "B": 20, "C": 300, "@": 5000, "D": 5000, "\x00": 5000, "\xff": 5000, "ABC": 321, "CBA": 321, "@ABCD": 10321, "AA": 2} {
		checkWidth(t, own, s, want)
	}
	checkWidth(t, own, everyByte(), 321+253*5000)
	for _, name := range standardNames {
		sum := 0
		for b := range 256 {
			sum += wantByte(name, b)
		}
		checkWidth(t, standard(name), everyByte(), sum)
		checkWidth(t, standard(name), strings.Repeat(everyByte(), 5), 5*sum)
	}
}

// A font may begin anywhere, also outside of all bytes, and have any number of widths.
func TestWidthAnyFont(t *testing.T) {
	firsts := []int{0, 1, 2, 127, 128, 254, 255, 256, 257, 1000, -1, -2, -3, -100, -254, -255, -256, -257, math.MaxInt, math.MaxInt - 1, math.MaxInt - 254, math.MaxInt - 255, math.MaxInt - 256, math.MinInt, math.MinInt + 1, math.MinInt + 254, math.MinInt + 255, math.MinInt + 256, 1 << 32, -1 << 32, 1 << 62, -1 << 62}
	for _, first := range firsts {
		for _, length := range []int{0, 1, 2, 3, 95, 255, 256, 257, 300, 600} {
			font := Font{First: first, Other: -7}
			for k := range length {
				font.Widths = append(font.Widths, 1000+k)
			}
			for b := range 256 {
				s := string([]byte{byte(b)})
				checkWidth(t, font, s, wantWidth(font, s))
			}
			checkWidth(t, font, everyByte(), wantWidth(font, everyByte()))
			checkWidth(t, font, "", 0)
		}
	}
	checkWidth(t, Font{First: -2, Widths: []int{1, 2, 3, 4}}, "\x00\x01", 7)
	checkWidth(t, Font{First: 254, Widths: []int{1, 2, 3, 4}, Other: 9}, "\xfd\xfe\xff", 12)
	checkWidth(t, Font{First: 300, Widths: []int{1}, Other: 9}, "\x2c", 9)
	checkWidth(t, Font{First: -100, Widths: []int{5}, Other: 9}, "\x9c\x00", 18)
}

// Widths below 0, and those of any size.
func TestWidthAnyWidth(t *testing.T) {
	checkWidth(t, Font{First: 65, Widths: []int{-5, 3}, Other: -1}, "AB@", -3)
	edges := []int{0, 1, -1, 2, -2, 1000, -1000, math.MaxInt, math.MinInt, math.MaxInt - 1, math.MinInt + 1, math.MaxInt/2 + 1, math.MinInt/2 - 1, math.MinInt / 2, 1 << 31, -1 << 31, 1 << 61, -1 << 61}
	texts := []string{"", "A", "B", "C", "AA", "AB", "BA", "ABC", "CBA", "BAC", "AAB", "ABAB", "AABB", "AAAA", "ABCABC", "AAABBBCCC", "CCCAAABBB", "AAAAAAAABBBBBBBB", "ABBBBBBBBA"}
	for _, a := range edges {
		for _, b := range edges {
			font := Font{First: 65, Widths: []int{a, b}, Other: 3}
			for _, s := range texts {
				checkWidth(t, font, s, wantWidth(font, s))
				want, e := wantAdvance(font, s, 12000)
				checkAdvance(t, font, s, 12000, want, e)
			}
		}
	}
	// Wide, and back again: what comes out is just the sum.
	checkWidth(t, Font{First: 65, Widths: []int{math.MaxInt, math.MinInt}, Other: 5}, "AAAABBBBC", 1)
	checkWidth(t, Font{Other: 1 << 62}, "aaaa", math.MaxInt)
	checkWidth(t, Font{Other: -1 << 62}, "aaaa", math.MinInt)
	checkWidth(t, Font{Other: -1 << 62}, "aa", math.MinInt)
	checkWidth(t, Font{Other: 1 << 62}, "a", 1<<62)
	checkWidth(t, Font{Other: math.MinInt}, "a", math.MinInt)
	checkWidth(t, Font{Other: math.MinInt}, "aa", math.MinInt)
	checkWidth(t, Font{Other: math.MaxInt}, "aa", math.MaxInt)
	checkWidth(t, Font{Other: math.MaxInt}, "aaa", math.MaxInt)
	// A sum that would come round to a width that may be is too great all the same.
	checkAdvance(t, Font{Other: 1 << 62}, "aaaa", 1000, 0, api.ErrRange)
	checkAdvance(t, Font{Other: -1 << 62}, "aaaa", 1000, 0, api.ErrRange)
	checkAdvance(t, Font{Other: 1 << 62}, "aaaa", 0, 0, api.ErrRange)
	checkAdvance(t, Font{Other: math.MaxInt}, "aa", 1000, 0, api.ErrRange)
	checkAdvance(t, Font{Other: math.MinInt}, "aa", 1000, 0, api.ErrRange)
}

func TestAdvance(t *testing.T) {
	helvetica := standard("Helvetica")
	for _, x := range []struct {
		s          string
		size, want api.Fix
	}{
		{"A ", 1000, 945},
		{"A ", 12000, 11340},
		{"", 12000, 0},
		{"", 0, 0},
		{"", -12000, 0},
		{"A ", 0, 0},
		{"A ", -1000, -945},
		{"A ", -12000, -11340},
		{"A ", 1, 1},   // 0.945
		{"A ", -1, -1}, // -0.945
		{"i", 1, 0},    // 0.222
		{"i", -1, 0},
		{"c", 1, 1},   // 0.5
		{"c", -1, -1}, // -0.5
		{"c", 3, 2},   // 1.5
		{"c", -3, -2}, // -1.5
		{"c", 5, 3},   // 2.5
		{"c", 1001, 501},
		{"c", -1001, -501},
		{"c", 999, 500}, // 499.5
		{"~", 7, 4},     // 4.088
		{"@", 12345, 12530},
		{"@", -12345, -12530},
		{"ccc", 333, 500}, // 499.5: the sum is rounded, not its parts
		{"Hello", 10000, 22780},
	} {
		checkAdvance(t, helvetica, x.s, x.size, x.want, api.OK)
	}
	checkAdvance(t, standard("Courier"), "a", 10000, 6000, api.OK)
	checkAdvance(t, standard("Times-Roman"), "A ", 10000, 9720, api.OK)
	checkAdvance(t, Font{}, everyByte(), api.MaxFix, 0, api.OK)
	// A font of widths below 0.
	checkAdvance(t, Font{Other: -500}, "a", 1, -1, api.OK)
	checkAdvance(t, Font{Other: -500}, "a", -1, 1, api.OK)
	checkAdvance(t, Font{Other: -500}, "aa", 3000, -3000, api.OK)
}

// Where a width, a size or a product is too great.
func TestAdvanceRange(t *testing.T) {
	const most = api.MaxFix
	wide := func(n int) Font { return Font{Other: n} }
	for _, x := range []struct {
		width      int
		size, want api.Fix
		e          api.Errno
	}{
		{most, 0, 0, api.OK},
		{most, 1, 2147484, api.OK}, // 2147483.648
		{most, -1, -2147484, api.OK},
		{most, 1000, most, api.OK},
		{most, -1000, -most, api.OK},
		{most, 1001, 0, api.ErrRange},
		{most, -1001, 0, api.ErrRange},
		{most, most, 0, api.ErrRange},
		{most + 1, 0, 0, api.ErrRange},
		{most + 1, 1, 0, api.ErrRange},
		{most + 1, 1000, 0, api.ErrRange},
		{most + 1, -1000, 0, api.ErrRange},
		{most - 1, 1000, most - 1, api.OK},
		{-most, 1000, -most, api.OK},
		{-most, -1000, most, api.OK},
		{-most - 1, 0, 0, api.ErrRange},
		{-most - 1, 1000, 0, api.ErrRange},
		{1000, most, most, api.OK},
		{1000, -most, -most, api.OK},
		{1000, most + 1, 0, api.ErrRange},
		{1000, -most - 1, 0, api.ErrRange},
		{0, most, 0, api.OK},
		{0, most + 1, 0, api.ErrRange},
		{0, -most - 1, 0, api.ErrRange},
		{0, math.MaxInt, 0, api.ErrRange},
		{0, math.MinInt, 0, api.ErrRange},
		{1001, most, 0, api.ErrRange},
		{2000, most / 2, most, api.OK},
		{2000, most/2 + 1, 0, api.ErrRange},
		{-2000, most / 2, -most, api.OK},
		{-2000, most/2 + 1, 0, api.ErrRange},
		{math.MaxInt, 0, 0, api.ErrRange},
		{math.MinInt, 0, 0, api.ErrRange},
		{math.MaxInt, math.MaxInt, 0, api.ErrRange},
		{math.MinInt, math.MinInt, 0, api.ErrRange},
		{math.MinInt, -1, 0, api.ErrRange},
	} {
		checkAdvance(t, wide(x.width), "a", x.size, x.want, x.e)
		checkAdvance(t, Font{First: 97, Widths: []int{x.width}}, "\x00abc", x.size, x.want, x.e)
	}
	checkAdvance(t, Font{}, "", most+1, 0, api.ErrRange)
	checkAdvance(t, Font{}, "", -most-1, 0, api.ErrRange)
	// A width of many bytes, just as great as may be, and one more.
	own := Font{First: 65, Widths: []int{1 << 21, 1}, Other: 1 << 30}
	long := strings.Repeat("A", 1024)
	checkAdvance(t, own, long, 1000, most, api.OK)
	checkAdvance(t, own, long+"B", 1000, 0, api.ErrRange)
	checkAdvance(t, own, long+"B", 0, 0, api.ErrRange)
	checkAdvance(t, own, long[1:], 1000, most-1<<21, api.OK)
	checkAdvance(t, own, "aa", 1000, most, api.OK)
	checkAdvance(t, own, "aaB", 1000, 0, api.ErrRange)
	// Wider than may be on the way, but not at the end.
	back := Font{First: 65, Widths: []int{most, -most}}
	checkAdvance(t, back, "AABB", 1000, 0, api.OK)
	checkAdvance(t, back, "AAB", 1000, most, api.OK)
}

// It is fix.Mul of the size and the width.
func TestAdvanceIsMul(t *testing.T) {
	sizes := []api.Fix{0, 1, -1, 499, 500, 501, 999, 1000, 1001, 12000, -12000, 12345, api.MaxFix, -api.MaxFix, api.MaxFix + 1, math.MaxInt, math.MinInt}
	for _, name := range standardNames {
		font := standard(name)
		for _, s := range []string{"", "a", "A ", "Hello", everyByte(), strings.Repeat(everyByte(), 20)} {
			for _, size := range sizes {
				want, e := fix.Mul(size, api.Fix(wantWidth(font, s)))
				checkAdvance(t, font, s, size, want, e)
				want, e = wantAdvance(font, s, size)
				checkAdvance(t, font, s, size, want, e)
			}
		}
	}
}
