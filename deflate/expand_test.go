package deflate

import (
	"bytes"
	"math"
	"math/rand"
	"slices"
	"testing"

	"inkstand/api"
)

// P7.2

func TestExpand(t *testing.T) {
	expands(t, nil, nil, api.OK)
	expands(t, []Token{}, nil, api.OK)
	expands(t, []Token{{}}, []byte{0}, api.OK)
	expands(t, lit("ab\xff"), []byte("ab\xff"), api.OK)
	expands(t, slices.Concat(lit("a"), back(3, 1)), []byte("aaaa"), api.OK)
	expands(t, slices.Concat(lit("ab"), back(5, 2), lit("c")), []byte("abababac"), api.OK)
	expands(t, slices.Concat(lit("abcd"), back(2, 4), back(2, 1), back(3, 3)), []byte("abcdabbbbbb"), api.OK)
	// The Dist of a byte, and the Lit of others, say nothing.
	for _, dist := range []int{1, -1, 2, 258, math.MaxInt, math.MinInt} {
		expands(t, []Token{{'a', 0, dist}, {'b', 0, dist}}, []byte("ab"), api.OK)
	}
	expands(t, []Token{{'a', 0, 0}, {'z', 2, 1}}, []byte("aaa"), api.OK)
}

// Of a Len, all that may be, also those that no match has.
func TestExpandLen(t *testing.T) {
	for n := 1; n <= 258; n++ {
		expands(t, slices.Concat(lit("xa"), back(n, 1), lit("b")), slices.Concat([]byte("xa"), bytes.Repeat([]byte("a"), n), []byte("b")), api.OK)
	}
	for _, n := range []int{-1, 259, -2, 260, 256 + 258, -258, 1 << 16, 1 << 32, 1<<32 + 1, math.MaxInt, math.MinInt} {
		for _, dist := range []int{0, 1, 2, 3, -1, n} {
			expands(t, slices.Concat(lit("ab"), back(n, dist)), nil, api.ErrArg)
			expands(t, slices.Concat(back(n, dist), lit("ab")), nil, api.ErrArg)
			expands(t, back(n, dist), nil, api.ErrArg)
		}
	}
}

// Of a Dist, all up to as many bytes as there are: those of lengths, too, and as far as that may be.
func TestExpandDist(t *testing.T) {
	data := some(100)
	for dist := 1; dist <= len(data); dist++ {
		// A byte; some, as long as they don't overlap; more.
		for _, n := range []int{1, min(dist, 50), dist + 1, 258} {
			want := bytes.Clone(data)
			for range n {
				want = append(want, want[len(want)-dist])
			}
			expands(t, append(lit(string(data)), back(n, dist)...), want, api.OK)
		}
	}
	for _, dist := range []int{0, -1, 101, 102, -100, 1<<32 + 1, -1<<32 + 1, math.MaxInt, math.MinInt} {
		for _, n := range []int{1, 3, 258} {
			expands(t, append(lit(string(data)), back(n, dist)...), nil, api.ErrArg)
			// Those behind don't count.
			expands(t, slices.Concat(lit(string(data)), back(n, dist), lit(string(data))), nil, api.ErrArg)
		}
	}
	for _, n := range []int{1, 3, 258} {
		expands(t, back(n, 1), nil, api.ErrArg)
		expands(t, slices.Concat(lit("ab"), back(n, 1), back(1, n+2), lit("c")), append(append([]byte("ab"), bytes.Repeat([]byte("b"), n)...), 'a', 'c'), api.OK)
		expands(t, slices.Concat(lit("ab"), back(n, 1), back(1, n+3)), nil, api.ErrArg)
	}
	far := some(40000)
	for _, dist := range []int{window, window + 1, 40000} {
		expands(t, append(lit(string(far)), back(3, dist)...), slices.Concat(far, far[40000-dist:][:3]), api.OK)
	}
	expands(t, append(lit(string(far)), back(3, 40001)...), nil, api.ErrArg)
}

// manyOf is tokens of n bytes, which are "a", in as few as may be or one each.
func manyOf(n int) [][]Token {
	few := slices.Concat(lit("a"), slices.Repeat(back(258, 1), (n-1)/258), slices.Repeat(back(1, 1), (n-1)%258))
	return [][]Token{few, slices.Repeat(lit("a"), n)}
}

func TestExpandLarge(t *testing.T) {
	for _, n := range []int{most - 1, most} {
		for _, l := range manyOf(n) {
			expands(t, l, bytes.Repeat([]byte("a"), n), api.OK)
		}
	}
	for _, n := range []int{most + 1, most + 2, 2 * most} {
		for _, l := range manyOf(n) {
			expands(t, l, nil, api.ErrLarge)
		}
	}
	for _, l := range manyOf(most - 3) {
		expands(t, append(slices.Clone(l), back(3, most-3)...), bytes.Repeat([]byte("a"), most), api.OK)
		expands(t, append(slices.Clone(l), back(4, 1)...), nil, api.ErrLarge)
		expands(t, append(slices.Clone(l), back(258, 1)...), nil, api.ErrLarge)
		// ErrArg goes ahead of it: of the token that is too much, of one ahead, of one behind.
		for _, wrong := range [][]Token{back(259, 1), back(-1, 1), back(258, 0), back(258, most-2)} {
			expands(t, append(slices.Clone(l), wrong...), nil, api.ErrArg)
			expands(t, slices.Concat(wrong, l, back(258, 1)), nil, api.ErrArg)
		}
		for _, wrong := range [][]Token{back(259, 1), back(-1, 1), back(258, 0), back(1, most-3+258+1)} {
			expands(t, slices.Concat(l, back(258, 1), wrong), nil, api.ErrArg)
		}
		// As far back as there would be bytes.
		expands(t, slices.Concat(l, back(258, 1), back(1, most-3+258)), nil, api.ErrLarge)
	}
}

// Made tokens, most of which may be.
func TestExpandMade(t *testing.T) {
	r := rand.New(rand.NewSource(2))
	right := 0
	for range 20000 {
		l := madeTokens(r)
		want, e := wantExpand(l)
		if e == api.OK {
			right++
		}
		expands(t, l, want, e)
	}
	if right < 5000 || right > 15000 {
		t.Error(right)
	}
}

// madeTokens is some tokens.
func madeTokens(r *rand.Rand) []Token {
	var l []Token
	there := 0
	for range r.Intn(20) {
		x := Token{Lit: byte(r.Intn(256)), Dist: r.Intn(5) - 2}
		if r.Intn(2) == 0 {
			x.Len = r.Intn(10)
			if r.Intn(5) == 0 {
				x.Len = 1 + r.Intn(258)
			}
			x.Dist = 1 + r.Intn(max(there, 1))
		}
		switch r.Intn(100) {
		case 0:
			x.Len = 259
		case 1:
			x.Len = -1
		case 2:
			x.Dist = there
		case 3:
			x.Dist = there + 1
		case 4:
			x.Dist = 0
		}
		there += max(x.Len, 1)
		l = append(l, x)
	}
	return l
}
