package inflate

import (
	"math"
	"slices"
	"testing"

	"inkstand/api"
)

// P6.2

// times is one length, so many times.
func times(n, length int) []int { return slices.Repeat([]int{length}, n) }

// checkCodes asks for codes, that nothing was changed, and that the answer is new memory.
func checkCodes(t *testing.T, lengths, want []int, e api.Errno) {
	t.Helper()
	handed := slices.Clone(lengths)
	got, err := Codes(handed)
	if !slices.Equal(handed, lengths) {
		t.Errorf("Codes(%v) changed them", lengths)
	}
	clear(handed)
	if !slices.Equal(got, want) || err != e || e != api.OK && got != nil {
		t.Errorf("Codes(%v): %v %v, not %v %v", lengths, got, err, want, e)
	}
}

func TestCodes(t *testing.T) {
	for _, x := range []struct{ lengths, want []int }{
		// RFC 1951, 3.2.2.
		{[]int{3, 3, 3, 3, 3, 2, 4, 4}, []int{2, 3, 4, 5, 6, 0, 14, 15}}, {[]int{2, 1, 3, 3}, []int{2, 0, 6, 7}},
		{[]int{1, 1}, []int{0, 1}}, {[]int{2, 2, 2, 2}, []int{0, 1, 2, 3}}, {[]int{1, 2, 2}, []int{0, 2, 3}}, {[]int{2, 2, 1}, []int{2, 3, 0}}, {[]int{2, 1, 2}, []int{2, 0, 3}},
		// Those without a code stand anywhere.
		{[]int{0, 1, 1}, []int{0, 0, 1}}, {[]int{1, 0, 0, 1, 0}, []int{0, 0, 0, 1, 0}}, {[]int{0, 2, 0, 0, 1, 2, 0}, []int{0, 2, 0, 0, 0, 3, 0}},
		// Lengths of which there is none, between others, and ahead of them.
		{[]int{1, 3, 3, 3, 3}, []int{0, 4, 5, 6, 7}}, {[]int{3, 3, 3, 3, 1}, []int{4, 5, 6, 7, 0}}, {[]int{2, 2, 2, 4, 4, 4, 4}, []int{0, 1, 2, 12, 13, 14, 15}}, {[]int{5, 1, 2, 5, 5, 5, 5, 5, 5, 5}, []int{24, 0, 2, 25, 26, 27, 28, 29, 30, 31}}, {times(8, 3), []int{0, 1, 2, 3, 4, 5, 6, 7}},
		// Each length.
		{[]int{1, 2, 3, 4, 5, 6, 7, 8, 9, 10, 11, 12, 13, 14, 15, 15}, []int{0, 2, 6, 14, 30, 62, 126, 254, 510, 1022, 2046, 4094, 8190, 16382, 32766, 32767}},
		{[]int{15, 15, 14, 13, 12, 11, 10, 9, 8, 7, 6, 5, 4, 3, 2, 1}, []int{32766, 32767, 16382, 8190, 4094, 2046, 1022, 510, 254, 126, 62, 30, 14, 6, 2, 0}},
		// None, and one alone.
		{nil, nil}, {[]int{}, nil}, {[]int{0}, []int{0}}, {times(320, 0), times(320, 0)}, {[]int{1}, []int{0}}, {[]int{0, 0, 1, 0}, []int{0, 0, 0, 0}}, {append(times(319, 0), 1), times(320, 0)},
	} {
		checkCodes(t, x.lengths, x.want, api.OK)
	}
}

// The trees of the kind 1 (RFC 1951, 3.2.6), and as many lengths as may be.
func TestCodesMany(t *testing.T) {
	codes, err := Codes(slices.Concat(times(144, 8), times(112, 9), times(24, 7), times(8, 8)))
	if len(codes) != 288 || err != api.OK {
		t.Fatal(len(codes), err)
	}
	for symbol, c := range codes {
		if s := given(symbol); code(c, len(s)) != s {
			t.Errorf("%d: %b, not %s", symbol, c, s)
		}
	}
	up := func(n int) []int {
		l := make([]int, n)
		for i := range l {
			l[i] = i
		}
		return l
	}
	checkCodes(t, times(32, 5), up(32), api.OK)
	checkCodes(t, times(256, 8), up(256), api.OK)
	long := slices.Concat(times(256, 9), times(64, 7))
	want := append(up(512)[256:], up(64)...)
	checkCodes(t, long, want, api.OK)
	checkCodes(t, append(long, 0), nil, api.ErrArg)
	checkCodes(t, long[:319], nil, api.ErrForm)
}

func TestCodesArg(t *testing.T) {
	for _, lengths := range [][]int{
		times(321, 0), times(321, 1), times(321, 16), times(1000, 0), append(times(320, 0), 1), append(times(320, 0), -1),
		{-1}, {16}, {math.MinInt}, {math.MaxInt}, {1, 1, -1}, {-1, 1, 1}, {1, 16, 1}, {0, 0, 16}, {1 << 32}, {1<<32 | 1, 1}, {256},
		// Ahead of what is wrong with the codes.
		{1, 1, 1, 16}, {16, 1, 1, 1}, {2, -1}, {-1, 3}, append(times(319, 1), -1), append(times(320, 1), 1), times(320, 16), times(320, -1),
	} {
		checkCodes(t, lengths, nil, api.ErrArg)
	}
}

func TestCodesForm(t *testing.T) {
	for _, lengths := range [][]int{
		// Too many.
		{1, 1, 1}, {1, 1, 2}, {2, 1, 1}, {1, 1, 15}, {1, 2, 2, 2}, {2, 2, 2, 2, 2}, {2, 2, 2, 2, 15}, {1, 2, 3, 4, 4, 4}, times(320, 1), times(257, 8), times(320, 8), {1, 2, 3, 4, 5, 6, 7, 8, 9, 10, 11, 12, 13, 14, 15, 15, 15}, append(times(9, 3), 0), {1, 1, 0, 0, 1}, {1, 3, 3, 3, 3, 3},
		// Too many of one length, though fewer than could be of a longer one.
		append(times(3, 1), times(2, 15)...), {2, 1, 2, 2}, append(times(5, 2), 3),
		// Not all that could be.
		{1, 2}, {2, 1}, {2, 2}, {2, 2, 2}, {1, 2, 3}, {1, 3, 3, 3}, {15, 15}, {1, 15}, {1, 2, 3, 4, 5, 6, 7, 8, 9, 10, 11, 12, 13, 14, 15}, {1, 2, 3, 4, 5, 6, 7, 8, 9, 10, 11, 12, 13, 14, 14 + 1, 0}, times(255, 8), times(320, 9), times(320, 15), times(31, 5), {0, 2, 0, 2},
	} {
		checkCodes(t, lengths, nil, api.ErrForm)
	}
	// One alone, of each length but 1.
	for n := 2; n <= 15; n++ {
		checkCodes(t, []int{n}, nil, api.ErrForm)
		checkCodes(t, []int{0, n, 0}, nil, api.ErrForm)
	}
}

// All lists of a few lengths.
func TestCodesAll(t *testing.T) {
	var all func(l []int, left int)
	all = func(l []int, left int) {
		want, e := wantCodes(l)
		checkCodes(t, l, want, e)
		for n := -1; left > 0 && n <= 5; n++ {
			all(append(slices.Clone(l), n), left-1)
		}
	}
	all(nil, 6)
	// And with such as stand at the end of what may be.
	for _, ahead := range [][]int{{1, 2, 3, 4, 5, 6, 7, 8, 9, 10, 11, 12, 13}, times(255, 8), {16}, times(317, 0), append(times(127, 7), times(188, 0)...)} {
		for _, a := range []int{0, 1, 7, 8, 9, 13, 14, 15, 16} {
			for _, b := range []int{-1, 0, 8, 9, 10, 14, 15} {
				for _, c := range []int{0, 9, 10, 13, 14, 15} {
					l := append(slices.Clone(ahead), a, b, c)
					want, e := wantCodes(l)
					checkCodes(t, l, want, e)
				}
			}
		}
	}
}
