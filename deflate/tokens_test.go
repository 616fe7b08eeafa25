package deflate

import (
	"bytes"
	"math/rand"
	"slices"
	"strings"
	"testing"
)

// P7.1

func TestTokens(t *testing.T) {
	for s, want := range map[string][]Token{
		"":           nil,
		"a":          lit("a"),
		"\x00":       {{}},
		"ab":         lit("ab"),
		"aa":         lit("aa"),
		"abc":        lit("abc"),
		"aaa":        lit("aaa"),
		"aaaa":       slices.Concat(lit("a"), back(3, 1)),
		"aaaaa":      slices.Concat(lit("a"), back(4, 1)),
		"\xff\xff":   lit("\xff\xff"),
		"abab":       lit("abab"),
		"ababa":      slices.Concat(lit("ab"), back(3, 2)),
		"abcab":      lit("abcab"),
		"abcabc":     slices.Concat(lit("abc"), back(3, 3)),
		"abcabcabca": slices.Concat(lit("abc"), back(7, 3)),
		"abcxabc":    slices.Concat(lit("abcx"), back(3, 4)),
		"abcdxbcdy":  slices.Concat(lit("abcdx"), back(3, 4), lit("y")),
		// The longest one, though another one is nearer.
		"abcdxabcyabcd": slices.Concat(lit("abcdx"), back(3, 5), lit("y"), back(4, 9)),
		// The nearest one of those that are as long.
		"abcxabcyabc":        slices.Concat(lit("abcx"), back(3, 4), lit("y"), back(3, 4)),
		"abcdxabcdyabczabc":  slices.Concat(lit("abcdx"), back(4, 5), lit("y"), back(3, 5), lit("z"), back(3, 4)),
		"abcdxabcdyabczabcd": slices.Concat(lit("abcdx"), back(4, 5), lit("y"), back(3, 5), lit("z"), back(4, 9)),
		// The first match that there is, though one that begins a byte behind is longer.
		"abcxbcdeyabcde": slices.Concat(lit("abcxbcdey"), back(3, 9), lit("de")),
		// What was gone over counts for those behind, too: "cab" stands within a match alone.
		"abcabcxcab": slices.Concat(lit("abc"), back(3, 3), lit("x"), back(3, 5)),
		// A match up to the end, of bytes that a longer one could have.
		"abcdeabcd": slices.Concat(lit("abcde"), back(4, 5)),
		// Bytes are compared as they are, whatever text they are.
		"\x80\xff\x00\x80\xff\x00": slices.Concat(lit("\x80\xff\x00"), back(3, 3)),
	} {
		becomes(t, []byte(s), want)
		if got := wantTokens([]byte(s)); !slices.Equal(got, want) {
			t.Errorf("the words of %q: %v, not %v", s, got, want)
		}
	}
	becomes(t, []byte{}, nil)
}

// A byte again and again: one of it, matches of 258, and what is left.
func TestTokensRun(t *testing.T) {
	for n := 1; n < 1100; n++ {
		want := lit("z")
		left := n - 1
		for ; left >= 258; left -= 258 {
			want = append(want, back(258, 1)...)
		}
		if left >= 3 {
			want = append(want, back(left, 1)...)
		} else {
			want = append(want, lit("zz"[:left])...)
		}
		becomes(t, bytes.Repeat([]byte("z"), n), want)
	}
}

// Bytes that stand there twice, with nothing alike around them.
func TestTokensLen(t *testing.T) {
	for n := range 600 {
		part := unlike(n)
		b := slices.Concat(part, []byte("."), part, []byte(","))
		want := lit(string(part) + ".")
		at := n
		for ; at >= 258; at -= 258 {
			want = append(want, back(258, n+1)...)
		}
		if at >= 3 {
			want = append(want, back(at, n+1)...)
			at = 0
		}
		want = append(want, lit(string(part[n-at:])+",")...)
		becomes(t, b, want)
		if n == 257 || n == 258 || n == 259 || n < 20 {
			becomes(t, b[:len(b)-1], want[:len(want)-1])
		}
	}
}

// Matches that overlap themselves: texts again and again.
func TestTokensOverlap(t *testing.T) {
	var part []byte
	for each := 1; each < 40; each++ {
		part = append(part, byte(each))
		for times := 2; times < 20; times++ {
			b := bytes.Repeat(part, times)
			want := lit(string(part))
			left := len(b) - each
			for ; left >= 258; left -= 258 {
				want = append(want, back(258, each)...)
			}
			if left >= 3 {
				want = append(want, back(left, each)...)
				left = 0
			}
			want = append(want, lit(string(b[len(b)-left:]))...)
			becomes(t, b, want)
		}
	}
}

// Some bytes, and the same ones so far behind.
func TestTokensFar(t *testing.T) {
	for _, word := range []string{"###", "#$%", "\x00\x00\x00", "#$%&'()*"} {
		for dist := window - 12; dist <= window+3; dist++ {
			between := unlike(dist - len(word))
			b := slices.Concat([]byte(word), between, []byte(word))
			want := lit(word + string(between))
			if dist <= window {
				want = append(want, back(len(word), dist)...)
			} else {
				want = append(want, lit(word)...)
			}
			becomes(t, b, want)
			// Another one, farther ahead, is longer by "!": but it may be too far.
			n := len(word) + 1
			b = slices.Concat([]byte(word+"!"), b, []byte("!"))
			want = slices.Concat(lit(word+"!"), back(n-1, n), lit(string(between)))
			switch {
			case dist+n <= window:
				want = append(want, back(n, dist+n)...)
			case dist <= window:
				want = slices.Concat(want, back(n-1, dist), lit("!"))
			default:
				want = append(want, lit(word+"!")...)
			}
			becomes(t, b, want)
		}
	}
}

// Of two that stand ahead, the one that is too far is longer.
func TestTokensFarLonger(t *testing.T) {
	for _, too := range []int{0, 1} {
		between := unlike(window + too - 7)
		b := slices.Concat([]byte("#$%&#$%"), between, []byte("#$%&"))
		want := slices.Concat(lit("#$%&"), back(3, 4), lit(string(between)))
		if too == 0 {
			want = append(want, back(4, window)...)
		} else {
			want = append(want, back(3, window+1-4)...)
			want = append(want, lit("&")...)
		}
		becomes(t, b, want)
	}
}

// Many that begin alike.
func TestTokensMany(t *testing.T) {
	for _, l := range [][]string{
		{"aaab", "aaac", "aaad", "aaae"},
		{"aab", "aabb", "aabbb", "aabbbb", "aabbbbb"},
		{"abcd", "abce", "abcdf", "abcdg", "abceh", "abcdfg"},
		{strings.Repeat("a", 300), "b", strings.Repeat("a", 257), "c", strings.Repeat("a", 258), "d", strings.Repeat("a", 259)},
	} {
		r := rand.New(rand.NewSource(3))
		for range 200 {
			var b []byte
			for range r.Intn(60) {
				b = append(b, l[r.Intn(len(l))]...)
			}
			becomes(t, b, wantTokens(b))
		}
	}
}

// All texts of few letters.
func TestTokensAll(t *testing.T) {
	for _, x := range []struct {
		letters string
		n       int
	}{{"a", 20}, {"ab", 13}, {"abc", 8}, {"abcd", 7}} {
		for _, s := range texts(x.letters, x.n) {
			if l := Tokens([]byte(s)); !slices.Equal(l, wantTokens([]byte(s))) {
				t.Errorf("%q: %v, not %v", s, l, wantTokens([]byte(s)))
			}
		}
	}
}

// texts is all texts of so many letters, at most.
func texts(letters string, n int) []string {
	l := []string{""}
	for from := 0; n > 0; n-- {
		to := len(l)
		for _, s := range l[from:to] {
			for i := range len(letters) {
				l = append(l, s+letters[i:i+1])
			}
		}
		from = to
	}
	return l
}

// Texts of any length have tokens, also those that are too long to be pressed, and each of them in time.
func TestTokensLarge(t *testing.T) {
	r := rand.New(rand.NewSource(5))
	runs := func(word string, less, more int) []byte {
		var b []byte
		for len(b) < most+1000 {
			b = append(b, strings.Repeat(word, less+r.Intn(more))...)
			b = append(b, byte(r.Intn(200)))
		}
		return b
	}
	for _, b := range [][]byte{make([]byte, 5*most), some(most + 1), runs("a", 1, 10), runs("a", 100, 200), runs("ab", 0, 9), runs("", 0, 1), bytes.Repeat(unlike(4000), 400)} {
		handed := bytes.Clone(b)
		l := Tokens(b)
		if !bytes.Equal(b, handed) {
			t.Errorf("Tokens(%s) changed them", short(b))
		}
		if !bytes.Equal(expandLarge(l), b) {
			t.Errorf("Tokens(%s) are not these", short(b[:100]))
		}
	}
}

// expandLarge is tokens as bytes, however many.
func expandLarge(l []Token) []byte {
	var out []byte
	for _, t := range l {
		if t.Len == 0 {
			out = append(out, t.Lit)
		}
		for range t.Len {
			out = append(out, out[len(out)-t.Dist])
		}
	}
	return out
}
