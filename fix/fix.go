// Package fix is layer 1, numbers in thousandths, checked: see shared/doc/01-fix.md.
package fix

import (
	"strconv"
	"strings"

	"inkstand/api"
)

// maxText is the length in bytes of the longest text that Parse looks at.
const maxText = 400

// places is how many digits behind the point a thousandth has.
const places = 3

// Parse is a text as a number.
func Parse(s string) (api.Fix, api.Errno) {
	if len(s) > maxText {
		return 0, api.ErrRange
	}
	minus, digits := cutSign(s)
	whole, part, _ := strings.Cut(digits, ".")
	if len(whole)+len(part) == 0 || !allDigits(whole) || !allDigits(part) {
		return 0, api.ErrForm
	}
	n := thousandths(whole, part)
	if minus {
		n = -n
	}
	return checked(n)
}

// Print is a number as a text.
func Print(f api.Fix) string {
	if !Sane(f) {
		return ""
	}
	sign := ""
	if f < 0 {
		sign, f = "-", -f
	}
	return sign + strconv.Itoa(int(f/api.Scale)) + partText(int(f%api.Scale))
}

// Int is a whole number.
func Int(n int) (api.Fix, api.Errno) {
	// Asked of n itself: 1000 n may wrap round to a number that may be.
	const most = api.MaxFix / api.Scale
	if n < -most || n > most {
		return 0, api.ErrRange
	}
	return api.Fix(n) * api.Scale, api.OK
}

// Add is a sum.
func Add(a, b api.Fix) (api.Fix, api.Errno) {
	if !Sane(a, b) {
		return 0, api.ErrRange
	}
	return checked(a + b)
}

// Sub is a difference.
func Sub(a, b api.Fix) (api.Fix, api.Errno) {
	if !Sane(a, b) {
		return 0, api.ErrRange
	}
	return checked(a - b)
}

// Mul is a product.
func Mul(a, b api.Fix) (api.Fix, api.Errno) {
	if !Sane(a, b) {
		return 0, api.ErrRange
	}
	// At most 2^62 on either side of 0, so it does not wrap round.
	return checked(rounded(a*b, api.Scale))
}

// Div is a quotient.
func Div(a, b api.Fix) (api.Fix, api.Errno) {
	if !Sane(a, b) {
		return 0, api.ErrRange
	}
	if b == 0 {
		return 0, api.ErrArg
	}
	return checked(rounded(a*api.Scale, b))
}

// Sane: may all numbers be?
func Sane(l ...api.Fix) bool {
	for _, f := range l {
		if f < -api.MaxFix || f > api.MaxFix {
			return false
		}
	}
	return true
}

// checked is the number itself, if it may be.
func checked(f api.Fix) (api.Fix, api.Errno) {
	if !Sane(f) {
		return 0, api.ErrRange
	}
	return f, api.OK
}

// rounded is n / d to the nearest whole number, half away from 0; d is not 0.
func rounded(n, d api.Fix) api.Fix {
	q, r := n/d, n%d
	if 2*magnitude(r) < magnitude(d) {
		return q
	}
	// The sign is taken from n and d, as q may be 0.
	if (n < 0) != (d < 0) {
		return q - 1
	}
	return q + 1
}

// magnitude is how far f is from 0.
func magnitude(f api.Fix) api.Fix {
	if f < 0 {
		return -f
	}
	return f
}

// cutSign tells whether s begins with a minus, and what is behind its sign.
func cutSign(s string) (bool, string) {
	if s != "" && (s[0] == '+' || s[0] == '-') {
		return s[0] == '-', s[1:]
	}
	return false, s
}

// allDigits: is s made of digits alone?
func allDigits(s string) bool {
	for i := range len(s) {
		if s[i] < '0' || s[i] > '9' {
			return false
		}
	}
	return true
}

// thousandths is the number of the digits ahead of the point and behind it, rounded; some number above MaxFix, if it is above MaxFix.
func thousandths(whole, part string) api.Fix {
	n := api.Fix(0)
	for i := range len(whole) {
		n = grown(n, whole[i])
	}
	for i := range places {
		n = grown(n, digitAt(part, i))
	}
	// Whatever follows the first digit that is left out, it can't turn a half or more into less, nor less into a half.
	if digitAt(part, places) >= '5' {
		n++
	}
	return n
}

// digitAt is a digit of s, or '0' behind its end.
func digitAt(s string, i int) byte {
	if i < len(s) {
		return s[i]
	}
	return '0'
}

// grown is n with one more digit. A number above MaxFix stays as it is: it is too great already, and could wrap round.
func grown(n api.Fix, digit byte) api.Fix {
	if n > api.MaxFix {
		return n
	}
	return 10*n + api.Fix(digit-'0')
}

// partText is the point and the digits of 0 to 999 thousandths, nothing for 0.
func partText(n int) string {
	if n == 0 {
		return ""
	}
	// The 1 ahead keeps the zeros with which the three digits begin.
	digits := strconv.Itoa(api.Scale + n)[1:]
	return "." + strings.TrimRight(digits, "0")
}
