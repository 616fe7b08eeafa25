package metric

import (
	"math"
	"math/big"
	"regexp"
	"strconv"
	"strings"
	"unicode/utf16"

	"inkstand/api"
	"inkstand/fix"
	"inkstand/store"
)

// P13.1 to P13.5: answers by the document's words, told another way than the program's.

// The chapter's tables, as texts.
const (
	helveticaText = "278 278 355 556 556 889 667 191 333 333 389 584 278 333 278 278 556 556 556 556 556 556 556 556 556 556 278 278 584 584 584 556 1015 667 667 722 722 667 611 778 722 278 500 667 556 833 722 778 667 778 722 667 611 722 667 944 667 667 611 278 278 278 469 556 333 556 556 500 556 556 278 556 556 222 222 500 222 833 556 556 556 556 333 500 278 556 500 722 500 500 500 334 260 334 584"
	timesText     = "250 333 408 500 500 833 778 180 333 333 500 564 250 333 250 278 500 500 500 500 500 500 500 500 500 500 278 278 564 564 564 444 921 722 667 667 722 611 556 722 722 333 389 722 611 889 722 722 556 722 667 556 611 722 722 944 722 722 611 333 278 333 469 500 333 444 500 444 500 444 333 500 500 278 278 500 278 778 500 500 500 500 333 389 278 500 500 722 500 500 444 480 200 480 541"
)

// wantByte is a standard font's width of one byte.
func wantByte(name string, b int) int {
	l := strings.Fields(map[string]string{"Helvetica": helveticaText, "Times-Roman": timesText}[name])
	if b < 32 || b >= 32+len(l) {
		return map[string]int{"Helvetica": 556, "Times-Roman": 500, "Courier": 600}[name]
	}
	n, _ := strconv.Atoi(l[b-32])
	return n
}

// wantStandard gathers a font byte by byte.
func wantStandard(name string) (Font, bool) {
	if name != "Helvetica" && name != "Times-Roman" && name != "Courier" {
		return Font{}, false
	}
	t := Font{First: 32, Other: wantByte(name, 255)}
	for b := 32; b <= 126 && name != "Courier"; b++ {
		t.Widths = append(t.Widths, wantByte(name, b))
	}
	return t, true
}

// wantKey is what an entry of a Dict leads to.
func wantKey(f store.File, o api.Obj, key string) (api.Obj, api.Errno) {
	for _, x := range o.D {
		if x.Key == key {
			return store.Resolve(f, x.V)
		}
	}
	return none, api.OK
}

var wholeText = regexp.MustCompile(`^[0-9]+$`)

// wantNum is the units of a Num, by what its number is printed as, if that is digits alone and no more than most.
func wantNum(o api.Obj, most int) (int, bool) {
	s := fix.Print(o.F)
	if o.Kind != 2 || !wholeText.MatchString(s) {
		return 0, false
	}
	n, e := strconv.Atoi(s)
	return n, e == nil && n <= most
}

func must(bad bool, e api.Errno) {
	if bad {
		panic(e)
	}
}

func got[T any](v T, e api.Errno) T {
	must(e != api.OK, e)
	return v
}

// wantOf ends by a panic at the first error.
func wantOf(f store.File, o api.Obj) (t Font, e api.Errno) {
	defer func() {
		if x := recover(); x != nil {
			t, e = Font{}, x.(api.Errno)
		}
	}()
	o = got(store.Resolve(f, o))
	must(o.Kind != 6, api.ErrType)
	widths := got(wantKey(f, o, "Widths"))
	if widths.Kind == 0 {
		name := got(wantKey(f, o, "BaseFont"))
		t, ok := wantStandard(name.S)
		must(name.Kind != 3 || !ok, api.ErrForm)
		return t, api.OK
	}
	must(widths.Kind != 5, api.ErrForm)
	must(len(widths.L) >= 257, api.ErrLarge)
	for _, x := range widths.L {
		n, ok := wantNum(got(store.Resolve(f, x)), 5000)
		must(!ok, api.ErrForm)
		t.Widths = append(t.Widths, n)
	}
	first := got(wantKey(f, o, "FirstChar"))
	n, ok := wantNum(first, 255)
	must(!ok || first.N != 1, api.ErrForm)
	t.First = n
	return t, api.OK
}

// wantSum is the sum of a text's widths, however great: each width as often as its byte stands there.
func wantSum(t Font, s string) *big.Int {
	sum := new(big.Int)
	for b := range 256 {
		k := new(big.Int).Sub(big.NewInt(int64(b)), big.NewInt(int64(t.First)))
		w := t.Other
		if k.Sign() >= 0 && k.Cmp(big.NewInt(int64(len(t.Widths)))) < 0 {
			w = t.Widths[k.Int64()]
		}
		times := strings.Count(s, string([]byte{byte(b)}))
		sum.Add(sum, new(big.Int).Mul(big.NewInt(int64(w)), big.NewInt(int64(times))))
	}
	return sum
}

// wantWidth is the int that comes nearest to the sum.
func wantWidth(t Font, s string) int {
	switch sum := wantSum(t, s); {
	case sum.IsInt64():
		return int(sum.Int64())
	case sum.Sign() > 0:
		return math.MaxInt
	}
	return math.MinInt
}

// mayBe: is a number one of -2^31 to 2^31?
func mayBe(n *big.Int) bool { return new(big.Int).Abs(n).Cmp(big.NewInt(1<<31)) <= 0 }

func wantAdvance(t Font, s string, size api.Fix) (api.Fix, api.Errno) {
	a, b := wantSum(t, s), big.NewInt(int64(size))
	if !mayBe(a) || !mayBe(b) {
		return 0, api.ErrRange
	}
	// Without a sign, half a unit more and cut is half away from 0.
	n := new(big.Int).Mul(a, b)
	sign := int64(n.Sign())
	n.Abs(n).Add(n, big.NewInt(500)).Div(n, big.NewInt(1000))
	if !mayBe(n) {
		return 0, api.ErrRange
	}
	return api.Fix(sign * n.Int64()), api.OK
}

// aloneChars is all characters that one byte tells.
var aloneChars = "\t\n\r" + charsTo(32, 126) + charsTo(161, 172) + charsTo(174, 255)

func charsTo(from, to rune) string {
	s := ""
	for n := from; n <= to; n++ {
		s += string(n)
	}
	return s
}

func wantDecode(s string) string {
	var out []rune
	if !strings.HasPrefix(s, "\xfe\xff") {
		for _, b := range []byte(s) {
			if !strings.ContainsRune(aloneChars, rune(b)) {
				b = 0
			}
			out = append(out, rune(b))
		}
		return strings.ReplaceAll(string(out), "\x00", "\ufffd")
	}
	var units []uint16
	for i := 2; i+1 < len(s); i += 2 {
		units = append(units, uint16(s[i])*256+uint16(s[i+1]))
	}
	out = utf16.Decode(units)
	if len(s)%2 == 1 {
		out = append(out, 0xfffd)
	}
	return string(out)
}

func wantBytes(u string) (string, bool) {
	out := ""
	for _, r := range []rune(u) {
		if !strings.ContainsRune(aloneChars, r) {
			return "", false
		}
		out += string([]byte{byte(r)})
	}
	return out, true
}

func wantEncode(u string) string {
	if s, ok := wantBytes(u); ok && !strings.HasPrefix(s, "\xfe\xff") {
		return s
	}
	out := []byte{254, 255}
	for _, n := range utf16.Encode([]rune(u)) {
		out = append(out, byte(n/256), byte(n%256))
	}
	return string(out)
}
