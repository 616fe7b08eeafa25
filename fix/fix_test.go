package fix

import (
	"math"
	"math/big"
	"math/rand"
	"regexp"
	"slices"
	"strings"
	"testing"

	"inkstand/api"
)

const most = api.Fix(api.MaxFix)

// edges are numbers at which something changes, and numbers that may not be, up to the ends of the type.
func edges() []api.Fix {
	l := []api.Fix{0, 1, 2, 3, 499, 500, 501, 999, 1000, 1001, 1499, 1500, 1501, 2000, 3000, 46340950, 46340951, most/2 - 1, most / 2, most/2 + 1, most - 1, most, most + 1, 2 * most, 1 << 33, 1 << 62, math.MaxInt - 1, math.MaxInt}
	for _, f := range l {
		l = append(l, -f)
	}
	return append(l, math.MinInt)
}

// may says by the document's words whether a number may be.
func may(f api.Fix) bool {
	n := big.NewInt(int64(f))
	return n.CmpAbs(big.NewInt(1<<31)) <= 0
}

// nearest is q rounded to a whole number, half away from 0, with ErrRange if that may not be.
func nearest(q *big.Rat) (api.Fix, api.Errno) {
	above := new(big.Rat).Add(new(big.Rat).Abs(q), big.NewRat(1, 2))
	n := new(big.Int).Quo(above.Num(), above.Denom())
	if n.CmpAbs(big.NewInt(1<<31)) > 0 {
		return 0, api.ErrRange
	}
	if q.Sign() < 0 {
		n.Neg(n)
	}
	return api.Fix(n.Int64()), api.OK
}

func rat(n api.Fix) *big.Rat { return big.NewRat(int64(n), 1) }

// P1.1

func TestSane(t *testing.T) {
	for _, x := range []struct {
		l    []api.Fix
		want bool
	}{
		{nil, true},
		{[]api.Fix{}, true},
		{[]api.Fix{0}, true},
		{[]api.Fix{most}, true},
		{[]api.Fix{-most}, true},
		{[]api.Fix{most + 1}, false},
		{[]api.Fix{-most - 1}, false},
		{[]api.Fix{math.MaxInt}, false},
		{[]api.Fix{math.MinInt}, false},
		{[]api.Fix{most, -most, 0, 17}, true},
		{[]api.Fix{most + 1, 0, 0}, false},
		{[]api.Fix{0, -most - 1, 0}, false},
		{[]api.Fix{0, 0, most + 1}, false},
	} {
		kept := slices.Clone(x.l)
		if got := Sane(x.l...); got != x.want {
			t.Errorf("Sane(%d): %t", x.l, got)
		}
		if !slices.Equal(kept, x.l) {
			t.Errorf("Sane changed %d into %d", kept, x.l)
		}
	}
}

func TestInt(t *testing.T) {
	for _, x := range []struct {
		n int
		f api.Fix
		e api.Errno
	}{
		{0, 0, api.OK},
		{1, 1000, api.OK},
		{-7, -7000, api.OK},
		{2147483, 2147483000, api.OK},
		{-2147483, -2147483000, api.OK},
		{2147484, 0, api.ErrRange},
		{-2147484, 0, api.ErrRange},
		{1 << 31, 0, api.ErrRange},
		{math.MaxInt, 0, api.ErrRange},
		{math.MinInt, 0, api.ErrRange},
		// 1000 times these wraps round to a number that may be.
		{1 << 61, 0, api.ErrRange},
		{-1 << 61, 0, api.ErrRange},
		{18446744073709552, 0, api.ErrRange},
	} {
		if f, e := Int(x.n); f != x.f || e != x.e {
			t.Errorf("Int(%d): %d %v, not %d %v", x.n, f, e, x.f, x.e)
		}
	}
}

// P1.2

func checkParse(t *testing.T, s string, f api.Fix, e api.Errno) {
	t.Helper()
	if g, h := Parse(s); g != f || h != e {
		t.Errorf("Parse(%q): %d %v, not %d %v", s, g, h, f, e)
	}
}

func TestParseOrdinary(t *testing.T) {
	for s, f := range map[string]api.Fix{
		"0": 0, "-0": 0, "+0": 0, "0.0": 0, "-.0": 0, "7": 7000, "+7": 7000, "-7": -7000, "007": 7000,
		"12": 12000, "3.": 3000, "-3.": -3000, "+3.": 3000, ".5": 500, "-.5": -500, "+.5": 500,
		"1.2": 1200, "1.23": 1230, "1.234": 1234, "1.2345": 1235, "0.001": 1, "-.002": -2, "00.0100": 10,
	} {
		checkParse(t, s, f, api.OK)
	}
}

func TestParseRounds(t *testing.T) {
	for s, f := range map[string]api.Fix{
		"0.0005": 1, "0.0004": 0, "0.00049": 0, "0.0006": 1, "1.2344": 1234, "1.23449999": 1234,
		"1.2345": 1235, "1.2355": 1236, "1.23450000": 1235, "1.99949": 1999, "1.9995": 2000, "9.9999": 10000,
		"0.0004" + strings.Repeat("9", 300): 0,
		"0.0005" + strings.Repeat("0", 300): 1,
		"0.0005" + strings.Repeat("9", 300): 1,
	} {
		checkParse(t, s, f, api.OK)
		checkParse(t, "+"+s, f, api.OK)
		checkParse(t, "-"+s, -f, api.OK)
	}
}

func TestParseRange(t *testing.T) {
	for _, x := range []struct {
		s string
		f api.Fix
		e api.Errno
	}{
		{"2147483.647", most - 1, api.OK},
		{"2147483.648", most, api.OK},
		{"2147483.6475", most, api.OK},
		{"2147483.6484", most, api.OK},
		{"2147483.6484" + strings.Repeat("9", 300), most, api.OK},
		{"2147483.6485", 0, api.ErrRange},
		{"2147483.649", 0, api.ErrRange},
		{"2147484", 0, api.ErrRange},
		{"2147483648", 0, api.ErrRange},
		{"99999999999999999999", 0, api.ErrRange},
		// In thousandths these wrap round to numbers that may be.
		{"18446744073709551.616", 0, api.ErrRange},
		{"18446744073709552", 0, api.ErrRange},
		{strings.Repeat("9", 399), 0, api.ErrRange},
		{"1" + strings.Repeat("0", 380), 0, api.ErrRange},
		{strings.Repeat("0", 380) + "2147483.648", most, api.OK},
		{strings.Repeat("0", 380) + "2147483.649", 0, api.ErrRange},
	} {
		checkParse(t, x.s, x.f, x.e)
		checkParse(t, "-"+x.s, -x.f, x.e)
	}
}

func TestParseLength(t *testing.T) {
	checkParse(t, strings.Repeat("0", 400), 0, api.OK)
	checkParse(t, strings.Repeat("0", 401), 0, api.ErrRange)
	checkParse(t, strings.Repeat("0", 399)+"8", 8000, api.OK)
	checkParse(t, strings.Repeat("0", 400)+"8", 0, api.ErrRange)
	checkParse(t, "-1."+strings.Repeat("9", 397), -2000, api.OK)
	checkParse(t, "-1."+strings.Repeat("9", 398), 0, api.ErrRange)
	checkParse(t, strings.Repeat("9", 1<<20), 0, api.ErrRange)
}

func TestParseFirstError(t *testing.T) {
	checkParse(t, strings.Repeat("x", 400), 0, api.ErrForm)
	checkParse(t, strings.Repeat("x", 401), 0, api.ErrRange)
	checkParse(t, strings.Repeat("é", 200), 0, api.ErrForm)
	checkParse(t, strings.Repeat("é", 201), 0, api.ErrRange)
	checkParse(t, strings.Repeat("9", 399)+"x", 0, api.ErrForm)
	checkParse(t, strings.Repeat("9", 30)+".5.", 0, api.ErrForm)
	checkParse(t, "2147484-", 0, api.ErrForm)
}

func TestParseWrongForm(t *testing.T) {
	for _, s := range []string{
		"", "+", "-", ".", "+.", "-.", "++", "--", "..", "++1", "--1", "+-1", "-+1", "1+", "1-", "1-2", "1..", "..1",
		"1..2", "1.2.3", ".1.", "1.-2", "1.+2", ".-2", " 1", "1 ", "1 2", "- 1", "1e3", "1E3", "0x1", "1_0", "1,5",
		"a", "1a", "a1", "1.a", "/", ":", "1/", "1:", "1./", "1.:", "NaN", "Inf", "\x00", "1\x00", "1\n", "\xff", "1\xb2", "٣", "1.٣", "−1",
	} {
		checkParse(t, s, 0, api.ErrForm)
	}
}

var numberForm = regexp.MustCompile(`^[+-]?([0-9]+(\.[0-9]*)?|\.[0-9]+)$`)

// wantParse is the answer by the document's words, reckoned in fractions.
func wantParse(s string) (api.Fix, api.Errno) {
	if len(s) > 400 {
		return 0, api.ErrRange
	}
	if !numberForm.MatchString(s) {
		return 0, api.ErrForm
	}
	q, ok := new(big.Rat).SetString(s)
	if !ok {
		panic("no fraction: " + s)
	}
	return nearest(q.Mul(q, big.NewRat(1000, 1)))
}

func TestParseShortTexts(t *testing.T) {
	const letters = "+-.0459 "
	texts := []string{""}
	for from := 0; len(texts[from]) < 6; from++ {
		for i := range len(letters) {
			texts = append(texts, texts[from]+letters[i:i+1])
		}
		f, e := wantParse(texts[from])
		checkParse(t, texts[from], f, e)
	}
}

func TestParseManyTexts(t *testing.T) {
	r := rand.New(rand.NewSource(1))
	digits := func(n int) string {
		b := make([]byte, n)
		for i := range b {
			b[i] = "0123456789"[r.Intn(10)]
		}
		return string(b)
	}
	for range 20000 {
		s := []string{"", "+", "-"}[r.Intn(3)] + strings.Repeat("0", r.Intn(4)) + digits(r.Intn(9))
		if r.Intn(4) > 0 {
			s += "." + digits(r.Intn(8))
		}
		if r.Intn(20) == 0 {
			s += string(rune(r.Intn(256)))
		}
		f, e := wantParse(s)
		checkParse(t, s, f, e)
	}
}

// P1.3

func TestPrint(t *testing.T) {
	for f, want := range map[api.Fix]string{
		0: "0", 1: "0.001", -1: "-0.001", 5: "0.005", 10: "0.01", 50: "0.05", 100: "0.1", 101: "0.101", 110: "0.11",
		-500: "-0.5", 999: "0.999", 1000: "1", -1000: "-1", 1001: "1.001", 1010: "1.01", 1100: "1.1", 10000: "10",
		100000: "100", 12340: "12.34", -12345: "-12.345", 2147483000: "2147483",
		most: "2147483.648", -most: "-2147483.648", most - 1: "2147483.647",
		most + 1: "", -most - 1: "", math.MaxInt: "", math.MinInt: "",
	} {
		if s := Print(f); s != want {
			t.Errorf("Print(%d): %q, not %q", f, s, want)
		}
	}
}

func TestPrintForm(t *testing.T) {
	form := regexp.MustCompile(`^-?(0|[1-9][0-9]*)(\.[0-9]{0,2}[1-9])?$`)
	for f := api.Fix(-12000); f <= 12000; f++ {
		if s := Print(f); !form.MatchString(s) || (f < 0) != (s[0] == '-') {
			t.Errorf("Print(%d): %q", f, s)
		}
	}
}

// P1.4

type call func(a, b api.Fix) (api.Fix, api.Errno)

// reckoning is a call beside the exact fraction that it rounds; b is not 0 where it is a quotient.
type reckoning struct {
	name  string
	call  call
	exact func(a, b api.Fix) *big.Rat
}

func reckonings() []reckoning {
	thousand := rat(1000)
	return []reckoning{
		{"Add", Add, func(a, b api.Fix) *big.Rat { return new(big.Rat).Add(rat(a), rat(b)) }},
		{"Sub", Sub, func(a, b api.Fix) *big.Rat { return new(big.Rat).Sub(rat(a), rat(b)) }},
		{"Mul", Mul, func(a, b api.Fix) *big.Rat {
			q := new(big.Rat).Mul(rat(a), rat(b))
			return q.Quo(q, thousand)
		}},
		{"Div", Div, func(a, b api.Fix) *big.Rat {
			q := new(big.Rat).Quo(rat(a), rat(b))
			return q.Mul(q, thousand)
		}},
	}
}

func (r reckoning) want(a, b api.Fix) (api.Fix, api.Errno) {
	if !may(a) || !may(b) {
		return 0, api.ErrRange
	}
	if r.name == "Div" && b == 0 {
		return 0, api.ErrArg
	}
	return nearest(r.exact(a, b))
}

func (r reckoning) check(t *testing.T, a, b api.Fix) {
	t.Helper()
	f, e := r.want(a, b)
	if g, h := r.call(a, b); g != f || h != e {
		t.Errorf("%s(%d, %d): %d %v, not %d %v", r.name, a, b, g, h, f, e)
	}
}

func TestReckonTold(t *testing.T) {
	for _, x := range []struct {
		name    string
		call    call
		a, b, f api.Fix
		e       api.Errno
	}{
		{"Add", Add, 1500, -2000, -500, api.OK},
		{"Add", Add, most, 0, most, api.OK},
		{"Add", Add, most - 1, 1, most, api.OK},
		{"Add", Add, most, 1, 0, api.ErrRange},
		{"Add", Add, -most, -1, 0, api.ErrRange},
		{"Add", Add, most + 1, -1, 0, api.ErrRange},
		{"Add", Add, -1, most + 1, 0, api.ErrRange},
		{"Add", Add, math.MaxInt, math.MinInt, 0, api.ErrRange},
		{"Sub", Sub, 1500, 2000, -500, api.OK},
		{"Sub", Sub, -most, 0, -most, api.OK},
		{"Sub", Sub, -most, 1, 0, api.ErrRange},
		{"Sub", Sub, most, -1, 0, api.ErrRange},
		{"Sub", Sub, most + 1, most + 1, 0, api.ErrRange},
		{"Sub", Sub, math.MinInt, math.MinInt, 0, api.ErrRange},
		{"Mul", Mul, 1500, 1500, 2250, api.OK},
		{"Mul", Mul, 1, 500, 1, api.OK},
		{"Mul", Mul, 1, 499, 0, api.OK},
		{"Mul", Mul, -1, 500, -1, api.OK},
		{"Mul", Mul, 1, -500, -1, api.OK},
		{"Mul", Mul, -1, -500, 1, api.OK},
		{"Mul", Mul, -1, 499, 0, api.OK},
		{"Mul", Mul, 3, 500, 2, api.OK},
		{"Mul", Mul, -3, 500, -2, api.OK},
		{"Mul", Mul, most, 1000, most, api.OK},
		{"Mul", Mul, most, -1000, -most, api.OK},
		{"Mul", Mul, most, 1001, 0, api.ErrRange},
		{"Mul", Mul, most, most, 0, api.ErrRange},
		{"Mul", Mul, -most, most, 0, api.ErrRange},
		{"Mul", Mul, -most, -most, 0, api.ErrRange},
		{"Mul", Mul, most + 1, 0, 0, api.ErrRange},
		{"Mul", Mul, 0, -most - 1, 0, api.ErrRange},
		{"Mul", Mul, math.MinInt, 0, 0, api.ErrRange},
		{"Div", Div, 1000, 3000, 333, api.OK},
		{"Div", Div, 2000, 3000, 667, api.OK},
		{"Div", Div, -2000, 3000, -667, api.OK},
		{"Div", Div, 2000, -3000, -667, api.OK},
		{"Div", Div, -2000, -3000, 667, api.OK},
		{"Div", Div, 1, 2000, 1, api.OK},
		{"Div", Div, -1, 2000, -1, api.OK},
		{"Div", Div, 1, -2000, -1, api.OK},
		{"Div", Div, -1, -2000, 1, api.OK},
		{"Div", Div, 1, 2001, 0, api.OK},
		{"Div", Div, 5, 2000, 3, api.OK},
		{"Div", Div, most, 1000, most, api.OK},
		{"Div", Div, most, most, 1000, api.OK},
		{"Div", Div, most, 999, 0, api.ErrRange},
		{"Div", Div, most, 1, 0, api.ErrRange},
		{"Div", Div, 0, 0, 0, api.ErrArg},
		{"Div", Div, most, 0, 0, api.ErrArg},
		{"Div", Div, -most, 0, 0, api.ErrArg},
		{"Div", Div, most + 1, 0, 0, api.ErrRange},
		{"Div", Div, -most - 1, 0, 0, api.ErrRange},
		{"Div", Div, math.MinInt, -1, 0, api.ErrRange},
		{"Div", Div, 0, most + 1, 0, api.ErrRange},
	} {
		if f, e := x.call(x.a, x.b); f != x.f || e != x.e {
			t.Errorf("%s(%d, %d): %d %v, not %d %v", x.name, x.a, x.b, f, e, x.f, x.e)
		}
	}
}

func TestReckonEdges(t *testing.T) {
	for _, r := range reckonings() {
		for _, a := range edges() {
			for _, b := range edges() {
				r.check(t, a, b)
			}
		}
	}
}

func TestReckonMany(t *testing.T) {
	r := rand.New(rand.NewSource(2))
	// Of few bits as often as of many, so that answers that may be are common.
	number := func() api.Fix {
		f := api.Fix(r.Int63n(1 << r.Intn(33)))
		if r.Intn(2) == 0 {
			return -f
		}
		return f
	}
	for range 20000 {
		a, b := number(), number()
		for _, x := range reckonings() {
			x.check(t, a, b)
		}
	}
}

// P1.5

func checkRound(t *testing.T, f api.Fix) {
	t.Helper()
	if g, e := Parse(Print(f)); g != f || e != api.OK {
		t.Errorf("%d, printed and parsed: %d %v", f, g, e)
	}
}

func TestPrintedAndParsed(t *testing.T) {
	for d := range api.Fix(3000) {
		checkRound(t, d)
		checkRound(t, -d)
		checkRound(t, most-d)
		checkRound(t, d-most)
	}
	for f := -most; f <= most; f += 65537 {
		checkRound(t, f)
	}
}

// P1

func TestNonePanics(t *testing.T) {
	for _, f := range edges() {
		Print(f)
		Sane(f, f)
		Int(int(f))
		for _, g := range edges() {
			for _, r := range reckonings() {
				r.call(f, g)
			}
		}
	}
}

func FuzzParse(f *testing.F) {
	for _, s := range []string{"", "-0", "1.2345", ".", "2147483.6485", "1e3", strings.Repeat("0", 401)} {
		f.Add(s)
	}
	f.Fuzz(func(t *testing.T, s string) {
		want, e := wantParse(s)
		checkParse(t, s, want, e)
	})
}
