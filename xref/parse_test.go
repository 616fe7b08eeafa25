package xref

import (
	"fmt"
	"math"
	"slices"
	"strings"
	"testing"

	"inkstand/api"
	"inkstand/cos"
)

// P8.2

// dict is a Dict of whole numbers, by its keys and these in turn.
func dict(l ...any) api.Obj {
	o := api.Obj{Kind: api.Dict}
	for i := 0; i < len(l); i += 2 {
		o.D = append(o.D, api.Entry{Key: l[i].(string), V: cos.Int(l[i+1].(int))})
	}
	return o
}

func TestParse(t *testing.T) {
	for _, x := range []struct {
		s       string
		want    []Entry
		trailer api.Obj
	}{
		// No section, one, more; and sections of no object.
		{"xref trailer <<>>", nil, dict()},
		{"xref 0 0 trailer <<>>", nil, dict()},
		{"xref 0 0 7 0 0 0 trailer <<>>", nil, dict()},
		{"xref 1 1 0000000015 00000 n trailer << /Size 2 >>", []Entry{used(1, 15, 0)}, dict("Size", 2)},
		{"xref 0 2 0000000000 65535 f 0000000015 00000 n trailer << /Size 2 /A 1 >>", []Entry{free(0, 0, 65535), used(1, 15, 0)}, dict("A", 1, "Size", 2)},
		{"xref 0 1 0 65535 f 3 2 7 1 f 9 2 n 8 1 5 5 n trailer <<>>", []Entry{free(0, 0, 65535), free(3, 7, 1), used(4, 9, 2), used(8, 5, 5)}, dict()},
		{"xref 0 0 3 1 7 1 n 4096 0 4 1 9 1 f 0 0 trailer <<>>", []Entry{used(3, 7, 1), free(4, 9, 1)}, dict()},
		// Sections in any order, and of the same numbers again.
		{"xref 5 1 1 2 n 3 2 3 4 n 5 6 f 4 2 7 8 n 9 9 n trailer <<>>", []Entry{used(5, 1, 2), used(3, 3, 4), free(4, 5, 6), used(4, 7, 8), used(5, 9, 9)}, dict()},
		{"xref 0 1 1 1 n 0 1 1 1 n trailer <<>>", []Entry{used(0, 1, 1), used(0, 1, 1)}, dict()},
		// Numbers that are whole however they are written, up to the greatest ones.
		{"xref +1 0001 +15 -0 n -0 +1 0 +000 f trailer <<>>", []Entry{used(1, 15, 0), free(0, 0, 0)}, dict()},
		{"xref 4095 1 2147483 2147483 n trailer <<>>", []Entry{used(4095, 2147483, 2147483)}, dict()},
		{"xref 4094 2 1 1 n 2 2 f trailer <<>>", []Entry{used(4094, 1, 1), free(4095, 2, 2)}, dict()},
		{"xref 4096 0 trailer <<>>", nil, dict()},
		{"xref 2147483 0 trailer <<>>", nil, dict()},
		// Trailers as cos tells them.
		{"xref trailer << /A 1 /A 2 /B null >>", nil, dict("A", 2)},
		{"xref trailer << /A -5 /#41 3 >> x", nil, dict("A", 3)},
	} {
		checkTable(t, x.s, x.want, x.trailer)
	}
	// Where delimiters part the tokens, there need not be white.
	checkParse(t, "xref%\n0%\n1%\n5%\n6%\nn%\ntrailer<</A 1>>", 0, []Entry{used(0, 5, 6)}, dict("A", 1), api.OK)
	checkParse(t, "xref\n0 1\n5 6 n trailer<<>>)", 0, []Entry{used(0, 5, 6)}, dict(), api.OK)
	checkParse(t, "xref\ntrailer<<>>startxref", 0, nil, dict(), api.OK)
	checkParse(t, "xref xref trailer<<>>", 4, nil, dict(), api.OK)
	checkParse(t, "startxref trailer<<>>", 5, nil, dict(), api.OK)
	checkParse(t, "startxref trailer<<>>", 0, nil, none, api.ErrForm)
}

func TestParseDeepTrailer(t *testing.T) {
	s := strings.Repeat("<</A", 63) + "<<>>" + strings.Repeat(">>", 63)
	o, _, e := cos.Parse(s, 0)
	if e != api.OK {
		t.Fatal(e)
	}
	checkTable(t, "xref trailer"+s, nil, o)
	checkWrong(t, "xref trailer<</A"+s+">>", api.ErrDeep)
	checkWrong(t, "xref trailer<</A["+strings.Repeat("1 ", 1025)+"]>>", api.ErrLarge)
	checkWrong(t, "xref trailer<<"+strings.Repeat("/A 1", 1025)+">>", api.ErrLarge)
}

// Sections of many objects, up to all that there may be.
func TestParseMany(t *testing.T) {
	for _, n := range []int{1, 2, 255, 256, 1023, 1024, 1025, 4094, 4095, 4096} {
		for _, first := range []int{0, 1, 4096 - n} {
			if first+n > 4096 {
				continue
			}
			l := row(first, n)
			s := fmt.Sprintf("xref %d %d", first, n)
			for _, e := range l {
				s += fmt.Sprintf(" %d %d %c", e.Off, e.Gen, "fn"[min(1, e.Off/37%3)])
			}
			checkParse(t, s+" trailer<<>>", 0, l, dict(), api.OK)
			checkParse(t, s, 0, nil, none, api.ErrShort)
			checkParse(t, s+" 0 0 n trailer<<>>", 0, nil, none, api.ErrForm)
			checkParse(t, strings.TrimSuffix(s, s[len(s)-1:])+"trailer<<>>", 0, nil, none, api.ErrForm)
			// The same objects twice.
			checkParse(t, s+s[4:]+" trailer<<>>", 0, append(slices.Clone(l), l...), dict(), api.OK)
		}
	}
	checkParse(t, "xref "+strings.Repeat("7 1 5 0 n ", 20000)+"trailer<<>>", 0, slices.Repeat([]Entry{used(7, 5, 0)}, 20000), dict(), api.OK)
	checkParse(t, "xref "+strings.Repeat("0 0 ", 100000)+"trailer<<>>", 0, nil, dict(), api.OK)
}

// tokens is a table with each kind of what may stand in one.
func tokens() []string {
	return strings.Split("xref 0 1 0 65535 f 5 0 3 2 15 0 n 20 1 f trailer << /A 1 >>", " ")
}

// The end, at every place.
func TestParseShort(t *testing.T) {
	all := tokens()
	for n := range all {
		s := strings.Join(all[:n], " ")
		for _, end := range []string{"", " ", "\n", "\x00", "%", " %" + strings.Join(all[n:], " ")} {
			checkWrong(t, s+end, api.ErrShort)
		}
		// A Text that doesn't end.
		checkWrong(t, s+"(", api.ErrShort)
		checkWrong(t, s+" <4", api.ErrShort)
	}
	checkParse(t, strings.Join(all, " "), 0, []Entry{free(0, 0, 65535), used(3, 15, 0), free(4, 20, 1)}, dict("A", 1), api.OK)
}

// may tells whether another token may stand in the place of one, which then counts as it.
func may(place int, other string) bool {
	numbers := []string{"7", "+7", "007"}
	switch place {
	case 3, 4, 10, 11, 13, 14:
		return slices.Contains(numbers, other)
	case 5, 12, 15:
		return other == "n" || other == "f"
	}
	return false
}

// Something else, at every place up to the trailer's object.
func TestParseOther(t *testing.T) {
	all := tokens()
	others := []string{"x", "N", "F", "nn", "nf", "Xref", "xrefs", "Trailer", "trailers", "/xref", "/n", "/f", "/trailer", "(xref)", "(n)", "(7)", "<37>", "[", "]", "<<", ">>", "true", "null", "R", "startxref", "7.0", "7.", ".5", "-7", "-1", "0.0", "-7.0", "n", "f", "7", "+7", "007", "xref", "trailer"}
	for i, right := range all[:16] {
		for _, other := range others {
			// Another number than the section's own two makes another table: it is asked for elsewhere.
			number := slices.Contains([]string{"7", "+7", "007"}, other)
			if other == right || number && slices.Contains([]int{1, 2, 6, 7, 8, 9}, i) || other == "trailer" && slices.Contains([]int{1, 6, 8}, i) {
				continue
			}
			l := slices.Clone(all)
			l[i] = other
			s := strings.Join(l, " ")
			if !may(i, other) {
				checkWrong(t, s, api.ErrForm)
				checkWrong(t, strings.Join(l[:i+1], " ")+" ", api.ErrForm)
				continue
			}
			if _, o, e := Parse(s, 0); e != api.OK || !cos.Same(o, dict("A", 1)) {
				t.Errorf("Parse(%q): %v %v", s, o, e)
			}
		}
	}
	for _, s := range []string{
		// One too few or too many.
		"xref 0 trailer<<>>", "xref 0 1 trailer<<>>", "xref 0 1 5 n trailer<<>>", "xref 0 1 5 0 trailer<<>>", "xref 0 1 5 0 0 n trailer<<>>", "xref 0 1 5 0 n n trailer<<>>", "xref 0 1 5 0 n f trailer<<>>", "xref 0 2 5 0 n trailer<<>>", "xref 0 0 5 0 n trailer<<>>", "xref 0 1 5 0 n 6 0 n trailer<<>>", "xref n trailer<<>>", "xref xref trailer<<>>", "xref 0 trailer 0 trailer<<>>", "xref 0 0 0 trailer<<>>", "trailer<<>>", "0 1 5 0 n trailer<<>>", "xref 0 1 5 0n trailer<<>>",
		// A trailer that is no Dict.
		"xref trailer 5", "xref trailer 1 0 R", "xref trailer[<<>>]", "xref trailer(<<>>)", "xref trailer/A", "xref trailer null", "xref trailer true", "xref trailer -5.5", "xref trailer []<<>>",
		// No object there.
		"xref trailer]", "xref trailer>>", "xref trailer x", "xref trailer n", "xref trailer trailer<<>>", "xref trailer startxref", "xref trailer<<1 2>>", "xref trailer<</A>>", "xref trailer<</A 1 2>>", "xref trailer<</A x>>", "xref trailer<<]",
	} {
		checkWrong(t, s, api.ErrForm)
	}
}

// lex's errors, at every place up to the trailer's object; there they are cos's.
func TestParseLex(t *testing.T) {
	all := tokens()
	wrong := map[string]api.Errno{")": api.ErrForm, ">": api.ErrForm, "{": api.ErrForm, "}": api.ErrForm, "5a": api.ErrForm, "+": api.ErrForm, "/#5": api.ErrForm, "<x>": api.ErrForm, "(": api.ErrShort, "<5": api.ErrShort, "99999999": api.ErrRange, "-99999999": api.ErrRange, "2147484": api.ErrRange, "99999999.5": api.ErrRange, strings.Repeat("0", 401): api.ErrRange}
	for i := range all[:17] {
		for s, e := range wrong {
			checkWrong(t, strings.Join(all[:i], " ")+" "+s, e)
			checkWrong(t, strings.Join(all[:i], " ")+" "+s+"\n41 42", e)
		}
	}
	for s, e := range map[string]api.Errno{"<</A": api.ErrShort, "<</A 1": api.ErrShort, "<<": api.ErrShort, "<</A(": api.ErrShort, "<</A )": api.ErrForm, "<</A 99999999>>": api.ErrRange, "<</A[1 0 R": api.ErrShort, "[": api.ErrShort, "[)": api.ErrForm} {
		checkWrong(t, "xref trailer"+s, e)
		checkWrong(t, "xref 0 1 5 0 n trailer"+s, e)
	}
	for _, s := range []string{"", "xref trailer<<>>", "xref 0 1 5 0 n trailer<<>>"} {
		for _, at := range []int{-1, len(s) + 1, math.MinInt, math.MaxInt} {
			checkParse(t, s, at, nil, none, api.ErrArg)
		}
		checkParse(t, s, len(s), nil, none, api.ErrShort)
	}
}

func TestParseLarge(t *testing.T) {
	for s, e := range map[string]api.Errno{
		"xref 4096 1 5 0 n trailer<<>>": api.ErrLarge, "xref 4095 2 5 0 n 6 0 n trailer<<>>": api.ErrLarge, "xref 0 4097 5 0 n trailer<<>>": api.ErrLarge, "xref 1 4096 trailer<<>>": api.ErrLarge, "xref 2147483 2147483 trailer<<>>": api.ErrLarge, "xref 2147483 1": api.ErrLarge, "xref 0 2147483": api.ErrLarge, "xref 2048 2049": api.ErrLarge, "xref 4094 3": api.ErrLarge, "xref +4096 +1": api.ErrLarge,
		"xref 0 1 5 0 n 4096 1": api.ErrLarge, "xref 4096 0 4095 2 trailer<<>>": api.ErrLarge,
		// It is asked at the two numbers, ahead of what stands behind them, and behind what is wrong with them.
		"xref 4096 1 x": api.ErrLarge, "xref 4096 1(": api.ErrLarge, "xref 4096 1)": api.ErrLarge, "xref 4096 1 99999999": api.ErrLarge, "xref 4095 2 5 0 x": api.ErrLarge, "xref 0 4097 -1": api.ErrLarge,
		"xref 4096": api.ErrShort, "xref 4096 ": api.ErrShort, "xref 4096 x": api.ErrForm, "xref 4096 -1": api.ErrForm, "xref 4096 1.0": api.ErrForm, "xref 4096 trailer<<>>": api.ErrForm, "xref 4096(": api.ErrShort, "xref 4096 99999999": api.ErrRange, "xref 99999999 1": api.ErrRange, "xref 4096.0 1": api.ErrForm,
		// Those that are just not too great.
		"xref 4095 1": api.ErrShort, "xref 0 4096": api.ErrShort, "xref 2048 2048": api.ErrShort, "xref 4095 1 x": api.ErrForm, "xref 0 4096 5 0 x": api.ErrForm, "xref 4096 0 x": api.ErrForm, "xref 4096 0": api.ErrShort, "xref 4096 -0": api.ErrShort, "xref 0 4096 99999999": api.ErrRange,
		// The first one of two counts.
		"xref 0 1 x 0 n 4096 1": api.ErrForm, "xref 0 1 99999999 x": api.ErrRange, "xref 0 1 x 99999999": api.ErrForm, "xref 0 1 5 0 x trailer(": api.ErrForm, "xref x 0 1(": api.ErrForm, "xref 0 1 5 0 n trailer 5": api.ErrForm, "xref 0 1 5 0 n trailer": api.ErrShort, "xref 4096 1 trailer(": api.ErrLarge,
	} {
		checkWrong(t, s, e)
	}
}

// Each answer is memory of its own.
func TestParseNew(t *testing.T) {
	s := "xref 0 2 5 0 n 6 0 f 4 1 7 0 n trailer<</A[1]>>"
	l, o, _ := Parse(s, 0)
	for i := range l {
		l[i] = Entry{N: -1}
	}
	o.D[0].Key, o.D[0].V.L[0] = "B", cos.Int(9)
	want, _, _ := cos.Parse("<</A[1]>>", 0)
	checkParse(t, s, 0, []Entry{used(0, 5, 0), free(1, 6, 0), used(4, 7, 0)}, want, api.OK)
}
