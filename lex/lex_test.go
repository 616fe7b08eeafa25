package lex

import (
	"math"
	"math/rand"
	"regexp"
	"slices"
	"strings"
	"testing"

	"inkstand/api"
	"inkstand/fix"
)

// The lists of the document, as numbers, so that they are not the program's own.
var (
	whiteBytes = []byte{0, 9, 10, 12, 13, 32}
	delimBytes = []byte{0x28, 0x29, 0x3c, 0x3e, 0x5b, 0x5d, 0x7b, 0x7d, 0x2f, 0x25}
)

func isRegular(b byte) bool {
	return !slices.Contains(whiteBytes, b) && !slices.Contains(delimBytes, b)
}

// allBytes is a text of each byte once.
func allBytes() string {
	out := make([]byte, 256)
	for i := range out {
		out[i] = byte(i)
	}
	return string(out)
}

func checkNext(t *testing.T, s string, at int, want Token, e api.Errno) {
	t.Helper()
	if got, err := Next(s, at); got != want || err != e {
		t.Errorf("Next(%.80q, %d): %+v %v, not %+v %v", s, at, got, err, want, e)
	}
}

// checkWhole asks that s is one token from its begin to its end; and that it is the same one with something ahead of it and behind it.
func checkWhole(t *testing.T, s string, want Token) {
	t.Helper()
	want.From, want.To = 0, len(s)
	checkNext(t, s, 0, want, api.OK)
	want.From, want.To = 3, 3+len(s)
	checkNext(t, "x\n "+s+" x", 1, want, api.OK)
	checkNext(t, "x\n "+s+"]", 3, want, api.OK)
}

// checkWrong asks for an error, and no token, of s at its begin and behind something.
func checkWrong(t *testing.T, s string, e api.Errno) {
	t.Helper()
	checkNext(t, s, 0, Token{}, e)
	checkNext(t, "x %\n"+s, 1, Token{}, e)
}

// P3.1

func TestWhiteAndDelim(t *testing.T) {
	for i := range 256 {
		b := byte(i)
		if got, want := White(b), slices.Contains(whiteBytes, b); got != want {
			t.Errorf("White(%d): %t", b, got)
		}
		if got, want := Delim(b), slices.Contains(delimBytes, b); got != want {
			t.Errorf("Delim(%d): %t", b, got)
		}
	}
}

func checkSpace(t *testing.T, s string, at, want int) {
	t.Helper()
	if got := Space(s, at); got != want {
		t.Errorf("Space(%q, %d): %d, not %d", s, at, got, want)
	}
}

func TestSpace(t *testing.T) {
	for _, x := range []struct {
		s        string
		at, want int
	}{
		{"", 0, 0},
		{"a", 0, 0},
		{" a", 0, 1},
		{"a b", 1, 2},
		{"a b", 2, 2},
		{"\x00\t\n\f\r a", 0, 6},
		{"\x00\t\n\f\r ", 0, 6},
		{"\x00\t\n\f\r ", 3, 6},
		{"\va", 0, 0},
		{"\xa0a", 0, 0},
		{"\x85a", 0, 0},
		// Comments, that end by LF, by CR, by both, and with the text.
		{"%x\na", 0, 3},
		{"%x\ra", 0, 3},
		{"%x\r\na", 0, 4},
		{"%x", 0, 2},
		{"%", 0, 1},
		{"%\n", 0, 2},
		{"%\na", 0, 2},
		{"%%\na", 0, 3},
		{"%a\n%b\r%c", 0, 8},
		{" % a \n \t%b\r\n z", 0, 13},
		{"%x\fy\x00 z\na", 0, 8},
		{"%(\\\na", 0, 4},
		{"%\xff\xfe\na", 0, 4},
		// From within a comment on, nobody knows that it is one.
		{"%x\na", 1, 1},
		{"% x\na", 1, 2},
		{"%x%y\na", 2, 5},
		// At places that are none.
		{" a", -1, 1},
		{"a", -1, 0},
		{"  a", math.MinInt, 2},
		{"a ", 2, 2},
		{"a ", 3, 2},
		{"a", math.MaxInt, 1},
		{"", -1, 0},
		{"", 1, 0},
	} {
		checkSpace(t, x.s, x.at, x.want)
	}
}

func TestSpaceStopsAtAllOther(t *testing.T) {
	for i := range 256 {
		b := byte(i)
		want := 1
		if slices.Contains(whiteBytes, b) {
			want = 2
		}
		if b == '%' {
			want = 3
		}
		checkSpace(t, " "+string([]byte{b})+"x", 0, want)
	}
}

// P3.2

func TestNextExamples(t *testing.T) {
	checkNext(t, "/A#20B 1", 0, Token{Kind: Name, S: "A B", To: 6}, api.OK)
	checkNext(t, `(a\(b)`, 0, Token{Kind: Text, S: "a(b", To: 6}, api.OK)
	checkNext(t, "<4>", 0, Token{Kind: Text, S: "@", To: 3}, api.OK)
}

func TestKinds(t *testing.T) {
	for i, k := range []int{End, Number, Name, Text, Open, Close, Begin, Finish, Word} {
		if i != k {
			t.Errorf("kind %d is %d", i, k)
		}
	}
}

func TestNextPlaces(t *testing.T) {
	for _, s := range []string{"", "a", " ", "(", ">", "1 0 R", "%"} {
		for _, at := range []int{-1, len(s) + 1, math.MinInt, math.MaxInt} {
			checkNext(t, s, at, Token{}, api.ErrArg)
		}
		checkNext(t, s, len(s), Token{Kind: End, From: len(s), To: len(s)}, api.OK)
	}
	checkNext(t, "ab", 1, Token{Kind: Word, S: "b", From: 1, To: 2}, api.OK)
	checkNext(t, "a ]", 1, Token{Kind: Close, From: 2, To: 3}, api.OK)
	checkNext(t, "<<<", 1, Token{Kind: Begin, From: 1, To: 3}, api.OK)
}

func TestNextEnd(t *testing.T) {
	for _, s := range []string{"", " ", "\x00\t\n\f\r ", "%", "%x", "%(\n", " %x\r\n %y"} {
		checkNext(t, s, 0, Token{Kind: End, From: len(s), To: len(s)}, api.OK)
	}
}

func TestNextSigns(t *testing.T) {
	for s, kind := range map[string]int{"[": Open, "]": Close, "<<": Begin, ">>": Finish} {
		checkWhole(t, s, Token{Kind: kind})
		n := len(s)
		checkNext(t, s+s, 0, Token{Kind: kind, To: n}, api.OK)
		checkNext(t, s+s, n, Token{Kind: kind, From: n, To: 2 * n}, api.OK)
		checkNext(t, "%\r"+s+"(", 0, Token{Kind: kind, From: 2, To: 2 + n}, api.OK)
	}
	checkNext(t, ">>>", 0, Token{Kind: Finish, To: 2}, api.OK)
	checkNext(t, ">>>", 1, Token{Kind: Finish, From: 1, To: 3}, api.OK)
}

func TestNextWrongSigns(t *testing.T) {
	for _, s := range []string{">", ")", "{", "}", "> ", "> >", ">a", ">%\n>", "><", "))", ")(", "{}", "{{", "}}", "{a}", "{>>", "}1"} {
		checkWrong(t, s, api.ErrForm)
	}
}

func TestNextNames(t *testing.T) {
	for s, want := range map[string]string{
		"/": "", "/A": "A", "/Name1": "Name1", "/1": "1", "/-1.5": "-1.5", "/true": "true", "/A;_$*'\"|": "A;_$*'\"|", `/a\b`: `a\b`,
		"/#41": "A", "/#4a": "J", "/#4A": "J", "/#aF": "\xaf", "/#Fa": "\xfa", "/#00": "\x00", "/#ff": "\xff", "/#09": "\t", "/#90": "\x90",
		"/#20": " ", "/#23": "#", "/#2341": "#41", "/#2f#28": "/(", "/#25x": "%x", "/A#42C": "ABC", "/#41#42#43": "ABC", "/#4142": "A42", "/#0A0": "\n0",
		"/\x7f\x80\xff\x01\v": "\x7f\x80\xff\x01\v", "/\xc3\xa9": "é",
	} {
		checkWhole(t, s, Token{Kind: Name, S: want})
	}
}

func TestNextNameEnds(t *testing.T) {
	for i := range 256 {
		end := string([]byte{byte(i)})
		if isRegular(byte(i)) {
			if end != "#" {
				checkNext(t, "/A"+end+"/", 0, Token{Kind: Name, S: "A" + end, To: 3}, api.OK)
			}
			continue
		}
		checkNext(t, "/A"+end+"B", 0, Token{Kind: Name, S: "A", To: 2}, api.OK)
		checkNext(t, "/"+end+"B", 0, Token{Kind: Name, To: 1}, api.OK)
		checkNext(t, "/#41"+end+"B", 0, Token{Kind: Name, S: "A", To: 4}, api.OK)
		checkWrong(t, "/A#"+end+"41", api.ErrForm)
		checkWrong(t, "/A#4"+end+"1", api.ErrForm)
	}
}

func TestNextNameDigits(t *testing.T) {
	for i := range 256 {
		b := string([]byte{byte(i)})
		n := strings.Index("0123456789abcdef", strings.ToLower(b))
		if i > 127 || n < 0 {
			checkWrong(t, "/#"+b+"1", api.ErrForm)
			checkWrong(t, "/#1"+b, api.ErrForm)
			continue
		}
		checkWhole(t, "/#"+b+"1", Token{Kind: Name, S: string([]byte{byte(n<<4 | 1)})})
		checkWhole(t, "/#1"+b, Token{Kind: Name, S: string([]byte{byte(1<<4 | n)})})
	}
	for _, s := range []string{"/#", "/#4", "/A#", "/A#4", "/##", "/##41", "/#4#41", "/# 41", "/#x", "/#4g", "/#G4", "/#+1", "/#1+", "/#41#", "/#\xff\xff"} {
		checkWrong(t, s, api.ErrForm)
	}
}

func TestNextTexts(t *testing.T) {
	for s, want := range map[string]string{
		"()": "", "(a)": "a", "(a b)": "a b", "( )": " ", "(%)": "%", "(a%b\nc)": "a%b\nc", "(/#41)": "/#41", "(<41>[]{})": "<41>[]{}",
		// Parentheses that pair.
		"(())": "()", "(a(b)c)": "a(b)c", "(((a)b)(c))": "((a)b)(c)", "(()())": "()()",
		// Those with a backslash ahead do not.
		`(\()`: "(", `(\))`: ")", `(\(\()`: "((", `((\)))`: "())", `((\())`: "(()", `(\\)`: `\`, `(\\\))`: `\)`, `((\\))`: `(\)`,
		// Escapes.
		`(\n\r\t\b\f)`: "\n\r\t\b\f", `(a\nb)`: "a\nb", `(\\n)`: `\n`, `(\N\R\T\B\F)`: "NRTBF", `(\x\a\v\e\u)`: "xaveu", `(\8\9)`: "89", `(\ )`: " ", `(\%)`: "%", `(\/)`: "/",
		"(\\\xff)": "\xff", "(\\\x00)": "\x00", "(\\\t)": "\t", "(\\é)": "é",
		// Numbers of one to three digits of 8, and digits behind them.
		`(\1)`: "\x01", `(\0)`: "\x00", `(\7)`: "\x07", `(\12)`: "\n", `(\101)`: "A", `(\1018)`: "A8", `(\1011)`: "A1", `(\0053)`: "\x053", `(\53)`: "+", `(\053)`: "+",
		`(\18)`: "\x018", `(\128)`: "\n8", `(\1a)`: "\x01a", `(\12a)`: "\na", `(\1\1)`: "\x01\x01", `(\1 1)`: "\x01 1", `(\501)`: "A", `(\15)`: "\r", `(\50)`: "(", `(\051)`: ")", `(\134)`: `\`, `(\1341)`: `\1`,
		// Those above 255 are taken modulo 256.
		`(\377)`: "\xff", `(\400)`: "\x00", `(\401)`: "\x01", `(\777)`: "\xff", `(\700)`: "\xc0",
		// Ends of lines.
		"(\n)": "\n", "(\r)": "\n", "(\r\n)": "\n", "(\n\r)": "\n\n", "(\r\r)": "\n\n", "(\n\n)": "\n\n", "(\r\n\n)": "\n\n", "(\r\r\n)": "\n\n", "(a\r\nb\rc\nd)": "a\nb\nc\nd",
		"(\\\n)": "", "(\\\r)": "", "(\\\r\n)": "", "(a\\\nb)": "ab", "(a\\\rb)": "ab", "(a\\\r\nb)": "ab", "(\\\n\n)": "\n", "(\\\n\r)": "\n", "(\\\r\r)": "\n", "(\\\r\r\n)": "\n", "(\\\r\n\n)": "\n", "(\\\r\n\r\n)": "\n",
		"(\\r\\n)": "\r\n", "(\\r\n)": "\r\n", "(\r\\n)": "\n\n", "(\r\\\n)": "\n", "(\\15\n)": "\r\n", "(\\1\\\n2)": "\x012", "(\\\\\n)": "\\\n", "(\\\\\r)": "\\\n", "(\r(\r\n)\n)": "\n(\n)\n",
		// All other bytes are themselves.
		"(\x00\x01\t\f\b\x7f\x80\xff)": "\x00\x01\t\f\b\x7f\x80\xff",
	} {
		checkWhole(t, s, Token{Kind: Text, S: want})
	}
	checkNext(t, "(a))", 0, Token{Kind: Text, S: "a", To: 3}, api.OK)
	checkNext(t, "(a)(b)", 0, Token{Kind: Text, S: "a", To: 3}, api.OK)
	checkNext(t, "(a)b", 0, Token{Kind: Text, S: "a", To: 3}, api.OK)
}

func TestNextTextNumbers(t *testing.T) {
	for n := range 512 {
		s := []byte{'(', '\\', '0' + byte(n/64), '0' + byte(n/8%8), '0' + byte(n%8), ')'}
		checkWhole(t, string(s), Token{Kind: Text, S: string([]byte{byte(n % 256)})})
	}
}

func TestNextTextShort(t *testing.T) {
	for _, s := range []string{
		"(", "(a", "((", "(()", "((a)", "(a(b)", `(\`, `(a\`, `(\)`, `((\))`, `(\1`, `(\12`, `(\123`, `(\\\`, "(\r", "(\n", "(\\\r", "(\\\n", "(\\\r\n", `(\\\)`, "(%", "(]", "(>", "(\xff", "(\x00",
	} {
		checkWrong(t, s, api.ErrShort)
	}
}

func TestNextDigitTexts(t *testing.T) {
	for s, want := range map[string]string{
		"<>": "", "<41>": "A", "<4>": "@", "<0>": "\x00", "<4142>": "AB", "<414>": "A@", "<41424>": "AB@", "<aBcDeF>": "\xab\xcd\xef", "<AbCdE>": "\xab\xcd\xe0", "<00ff>": "\x00\xff", "<09af>": "\x09\xaf", "<FA90>": "\xfa\x90",
		"< >": "", "< 41>": "A", "<41 >": "A", "<4 1>": "A", "<4\x001\t4\n2\f4\r3>": "ABC", "< 4 >": "@", "<4 1 4 >": "A@", "<\x00\t\n\f\r >": "", "<41\r\n42>": "AB",
	} {
		checkWhole(t, s, Token{Kind: Text, S: want})
	}
	checkNext(t, "<41>>", 0, Token{Kind: Text, S: "A", To: 4}, api.OK)
	checkNext(t, "<41><42>", 0, Token{Kind: Text, S: "A", To: 4}, api.OK)
	checkNext(t, "<41>42", 0, Token{Kind: Text, S: "A", To: 4}, api.OK)
}

func TestNextDigitTextBytes(t *testing.T) {
	for i := range 256 {
		b := string([]byte{byte(i)})
		n := strings.Index("0123456789abcdef", strings.ToLower(b))
		switch {
		case slices.Contains(whiteBytes, byte(i)):
			checkWhole(t, "<4"+b+"1>", Token{Kind: Text, S: "A"})
		case b == ">":
			checkNext(t, "<4"+b+"1>", 0, Token{Kind: Text, S: "@", To: 3}, api.OK)
		case i < 128 && n >= 0:
			checkWhole(t, "<4"+b+"1>", Token{Kind: Text, S: string([]byte{byte(4<<4 | n), 0x10})})
		default:
			checkWrong(t, "<4"+b+"1>", api.ErrForm)
			checkWrong(t, "<4"+b, api.ErrForm)
			checkWrong(t, "< "+b+">", api.ErrForm)
		}
	}
	for _, s := range []string{"<x>", "<4x>", "<41x", "<4%\n1>", "< <>", "< <", "<4<1>", "<(41)>", "<#41>", "<4/", "<-1>", "<4.1>", "<é>"} {
		checkWrong(t, s, api.ErrForm)
	}
	for _, s := range []string{"<", "<4", "<41", "< ", "<4 ", "<4 1\n"} {
		checkWrong(t, s, api.ErrShort)
	}
}

func TestNextNumbers(t *testing.T) {
	for _, x := range []struct {
		s     string
		f     api.Fix
		whole bool
	}{
		{"0", 0, true}, {"1", 1000, true}, {"007", 7000, true}, {"+7", 7000, true}, {"-7", -7000, true}, {"-0", 0, true}, {"2147483", 2147483000, true}, {"-2147483", -2147483000, true},
		{"1.", 1000, false}, {"1.0", 1000, false}, {".5", 500, false}, {"-.5", -500, false}, {"+.5", 500, false}, {"-3.", -3000, false}, {"1.2345", 1235, false}, {"-0.002", -2, false}, {"0.0004", 0, false},
		{"2147483.648", api.MaxFix, false}, {"-2147483.6484", -api.MaxFix, false}, {strings.Repeat("0", 399) + "8", 8000, true}, {"1." + strings.Repeat("0", 398), 1000, false},
	} {
		checkWhole(t, x.s, Token{Kind: Number, F: x.f, Whole: x.whole})
	}
	for b := byte('0'); b <= '9'; b++ {
		checkWhole(t, string([]byte{b}), Token{Kind: Number, F: 1000 * api.Fix(b-'0'), Whole: true})
	}
}

func TestNextWrongNumbers(t *testing.T) {
	for _, s := range []string{"+", "-", ".", "+.", "-.", "--1", "+-1", "1-2", "1.2.3", "..", "1..", "1e3", "1a", "0x1", "1#", "1#20", "1\x80", "1\v", "-a", ".a", "+R", "1_0", "1,5", "1\\", "9é"} {
		checkWrong(t, s, api.ErrForm)
		checkNext(t, s+" 1", 0, Token{}, api.ErrForm)
		checkNext(t, s+"/", 0, Token{}, api.ErrForm)
	}
	for _, s := range []string{"2147483.6485", "2147484", "-2147484", "99999999999999999999", "18446744073709552", strings.Repeat("0", 401), strings.Repeat("9", 400), "-" + strings.Repeat("x", 400), "." + strings.Repeat("0", 1<<20)} {
		checkWrong(t, s, api.ErrRange)
	}
}

func TestNextWords(t *testing.T) {
	for _, s := range []string{"R", "obj", "endobj", "true", "null", "T*", "'", "\"", "a1", "a.b", "x-1", "#41", "a#", "\\", "\\(", "*+-.", ",", "\x01", "\v", "\x7f", "\x80", "\xff", "é", "\xa0", strings.Repeat("w", 1000)} {
		end := strings.IndexByte(s, '(')
		if end < 0 {
			checkWhole(t, s, Token{Kind: Word, S: s})
		} else {
			checkNext(t, s, 0, Token{Kind: Word, S: s[:end], To: end}, api.OK)
		}
	}
}

func TestNextFirstByte(t *testing.T) {
	for i := range 256 {
		b := byte(i)
		if !isRegular(b) {
			continue
		}
		s := string([]byte{b})
		switch {
		case strings.Contains("0123456789", s):
			checkNext(t, s+"5", 0, Token{Kind: Number, F: 1000 * api.Fix(10*int(b-'0')+5), Whole: true, To: 2}, api.OK)
		case s == "+":
			checkNext(t, s+"5", 0, Token{Kind: Number, F: 5000, Whole: true, To: 2}, api.OK)
		case s == "-":
			checkNext(t, s+"5", 0, Token{Kind: Number, F: -5000, Whole: true, To: 2}, api.OK)
		case s == ".":
			checkNext(t, s+"5", 0, Token{Kind: Number, F: 500, To: 2}, api.OK)
		default:
			checkNext(t, s+"5", 0, Token{Kind: Word, S: s + "5", To: 2}, api.OK)
		}
	}
}

func TestNextRunEnds(t *testing.T) {
	for i := range 256 {
		end := string([]byte{byte(i)})
		if isRegular(byte(i)) {
			checkNext(t, "ab"+end+"c", 0, Token{Kind: Word, S: "ab" + end + "c", To: 4}, api.OK)
			continue
		}
		checkNext(t, "ab"+end+"c", 0, Token{Kind: Word, S: "ab", To: 2}, api.OK)
		checkNext(t, "12"+end+"c", 0, Token{Kind: Number, F: 12000, Whole: true, To: 2}, api.OK)
		checkNext(t, "1."+end+"c", 0, Token{Kind: Number, F: 1000, To: 2}, api.OK)
	}
}

func TestNextOneBehindTheOther(t *testing.T) {
	s := "1 0 obj<</A[1.5(x)<41>/B]%c\n/L true>>endobj"
	var got []Token
	for at := 0; ; {
		k, e := Next(s, at)
		if e != api.OK {
			t.Fatal(k, e)
		}
		got = append(got, k)
		if k.Kind == End {
			break
		}
		at = k.To
	}
	want := []Token{
		{Kind: Number, F: 1000, Whole: true, From: 0, To: 1},
		{Kind: Number, Whole: true, From: 2, To: 3},
		{Kind: Word, S: "obj", From: 4, To: 7},
		{Kind: Begin, From: 7, To: 9},
		{Kind: Name, S: "A", From: 9, To: 11},
		{Kind: Open, From: 11, To: 12},
		{Kind: Number, F: 1500, From: 12, To: 15},
		{Kind: Text, S: "x", From: 15, To: 18},
		{Kind: Text, S: "A", From: 18, To: 22},
		{Kind: Name, S: "B", From: 22, To: 24},
		{Kind: Close, From: 24, To: 25},
		{Kind: Name, S: "L", From: 28, To: 30},
		{Kind: Word, S: "true", From: 31, To: 35},
		{Kind: Finish, From: 35, To: 37},
		{Kind: Word, S: "endobj", From: 37, To: 43},
		{Kind: End, From: 43, To: 43},
	}
	if !slices.Equal(got, want) {
		t.Errorf("%+v", got)
	}
}

// The answers by the document's words, told by patterns instead of by going over bytes.

const (
	regularClass = `[^\x00\t\n\f\r ()<>\[\]{}/%]`
	unitForm     = `^(?s:\\[0-7]{1,3}|\\\r\n|\\.|\r\n|[^\\])`
)

var (
	spaceForm  = regexp.MustCompile(`^(?:[\x00\t\n\f\r ]|%[^\n\r]*)*`)
	nameForm   = regexp.MustCompile(`^/(` + regularClass + `*)`)
	runForm    = regexp.MustCompile(`^` + regularClass + `+`)
	codeForm   = regexp.MustCompile(`#[0-9a-fA-F]{2}`)
	unit       = regexp.MustCompile(unitForm)
	digitsForm = regexp.MustCompile(`^<([0-9a-fA-F\x00\t\n\f\r ]*)`)
)

func wantSpace(s string, at int) int {
	if at < 0 {
		at = 0
	}
	if at > len(s) {
		at = len(s)
	}
	return at + len(spaceForm.FindString(s[at:]))
}

func wantNext(s string, at int) (Token, api.Errno) {
	if at < 0 || at > len(s) {
		return Token{}, api.ErrArg
	}
	from := wantSpace(s, at)
	k, n, e := wantToken(s[from:])
	if e != api.OK {
		return Token{}, e
	}
	k.From, k.To = from, from+n
	return k, api.OK
}

func wantToken(s string) (Token, int, api.Errno) {
	switch {
	case s == "":
		return Token{Kind: End}, 0, api.OK
	case s[0] == '[':
		return Token{Kind: Open}, 1, api.OK
	case s[0] == ']':
		return Token{Kind: Close}, 1, api.OK
	case strings.HasPrefix(s, "<<"):
		return Token{Kind: Begin}, 2, api.OK
	case strings.HasPrefix(s, ">>"):
		return Token{Kind: Finish}, 2, api.OK
	case strings.IndexByte(">){}", s[0]) >= 0:
		return Token{}, 0, api.ErrForm
	case s[0] == '/':
		return wantName(nameForm.FindString(s))
	case s[0] == '(':
		return wantText(s)
	case s[0] == '<':
		return wantDigits(s)
	}
	run := runForm.FindString(s)
	if !strings.ContainsAny(run[:1], "+-.0123456789") {
		return Token{Kind: Word, S: run}, len(run), api.OK
	}
	f, e := fix.Parse(run)
	return Token{Kind: Number, F: f, Whole: !strings.Contains(run, ".")}, len(run), e
}

func wantName(s string) (Token, int, api.Errno) {
	if strings.Contains(codeForm.ReplaceAllString(s, ""), "#") {
		return Token{}, 0, api.ErrForm
	}
	decoded := codeForm.ReplaceAllStringFunc(s[1:], func(code string) string { return fromDigits(code[1:]) })
	return Token{Kind: Name, S: decoded}, len(s), api.OK
}

// fromDigits is the bytes of an even number of digits of sixteen.
func fromDigits(s string) string {
	var out []byte
	for ; s != ""; s = s[2:] {
		high := strings.Index("0123456789abcdef", strings.ToLower(s[:1]))
		low := strings.Index("0123456789abcdef", strings.ToLower(s[1:2]))
		out = append(out, byte(16*high+low))
	}
	return string(out)
}

func wantDigits(s string) (Token, int, api.Errno) {
	m := digitsForm.FindStringSubmatch(s)
	if len(m[0]) == len(s) {
		return Token{}, 0, api.ErrShort
	}
	if s[len(m[0])] != '>' {
		return Token{}, 0, api.ErrForm
	}
	l := regexp.MustCompile(`[\x00\t\n\f\r ]`).ReplaceAllString(m[1], "")
	if len(l)%2 == 1 {
		l += "0"
	}
	return Token{Kind: Text, S: fromDigits(l)}, len(m[0]) + 1, api.OK
}

// wantText cuts s into units, each of which stands for some bytes; "(" and ")" that are units of their own pair.
func wantText(s string) (Token, int, api.Errno) {
	out, open := "", 0
	for at := 0; at < len(s); {
		u := unit.FindString(s[at:])
		if u == "" {
			break
		}
		at += len(u)
		if u == "(" {
			open++
		}
		if u == ")" {
			open--
		}
		if open == 0 {
			return Token{Kind: Text, S: out[1:]}, at, api.OK
		}
		out += wantUnit(u)
	}
	return Token{}, 0, api.ErrShort
}

func wantUnit(u string) string {
	switch u {
	case "\r", "\r\n":
		return "\n"
	case "\\\r", "\\\n", "\\\r\n":
		return ""
	case `\n`:
		return "\x0a"
	case `\r`:
		return "\x0d"
	case `\t`:
		return "\x09"
	case `\b`:
		return "\x08"
	case `\f`:
		return "\x0c"
	}
	if u[0] != '\\' {
		return u
	}
	if u[1] < '0' || u[1] > '7' {
		return u[1:]
	}
	n := 0
	for _, d := range u[1:] {
		n = 8*n + int(d-'0')
	}
	return string([]byte{byte(n % 256)})
}

func checkBoth(t *testing.T, s string, at int) {
	t.Helper()
	checkSpace(t, s, at, wantSpace(s, at))
	k, e := wantNext(s, at)
	checkNext(t, s, at, k, e)
}

func TestShortTexts(t *testing.T) {
	const few = "(\\)\r\n10#</>% .Rn\xff["
	texts := []string{""}
	for from := 0; len(texts[from]) < 5; from++ {
		if len(texts[from]) < 4 {
			for i := range len(few) {
				texts = append(texts, texts[from]+few[i:i+1])
			}
		}
		checkBoth(t, texts[from], 0)
		checkBoth(t, "("+texts[from]+")", 0)
		checkBoth(t, "("+texts[from]+"))", 0)
		checkBoth(t, "/"+texts[from], 0)
		checkBoth(t, "<"+texts[from]+">", 0)
		if from == len(texts)-1 {
			return
		}
	}
}

// someText is made of pieces that mean something and of bytes of any kind.
func someText(r *rand.Rand) string {
	pieces := []string{"(", ")", "\\", "\r", "\n", "\r\n", "\\\r\n", "\\(", "\\)", "\\101", "\\7", "<", ">", "<<", ">>", "[", "]", "{", "}", "/", "/A", "#", "#41", "#4", "%", "% x\r", " ", "\t", "\x00", "\f", "1", "-1.5", "+", ".", "R", "obj", "4", "aF", "\x80", "é"}
	out := ""
	for range r.Intn(12) {
		if r.Intn(8) == 0 {
			out += string([]byte{byte(r.Intn(256))})
		} else {
			out += pieces[r.Intn(len(pieces))]
		}
	}
	return out
}

func TestManyTexts(t *testing.T) {
	r := rand.New(rand.NewSource(4))
	for range 40000 {
		s := someText(r)
		for _, at := range []int{-1, 0, r.Intn(len(s) + 1), len(s), len(s) + 1} {
			checkBoth(t, s, at)
		}
		checkBoth(t, "("+s+")", 0)
		checkBoth(t, "<"+s+">", 0)
	}
}

// P3.3

func TestQuote(t *testing.T) {
	for s, want := range map[string]string{
		"": "()", "a": "(a)", "a b": "(a b)", " ": "( )", "~": "(~)", "!": "(!)", "/%<>[]{}#": "(/%<>[]{}#)", "nrtbf": "(nrtbf)", "123": "(123)",
		"(": `(\()`, ")": `(\))`, "()": `(\(\))`, `\`: `(\\)`, `\n`: `(\\n)`, "a(b": `(a\(b)`,
		"\n": `(\n)`, "\r": `(\r)`, "\t": `(\t)`, "\b": `(\b)`, "\f": `(\f)`, "\r\n": `(\r\n)`,
		"\x00": `(\000)`, "\x01": `(\001)`, "\x07": `(\007)`, "\v": `(\013)`, "\x0e": `(\016)`, "\x1f": `(\037)`, "\x7f": `(\177)`, "\x80": `(\200)`, "\xff": `(\377)`, "é": `(\303\251)`,
		"\x001": `(\0001)`, "\n1": `(\n1)`,
	} {
		if got := Quote(s); got != want {
			t.Errorf("Quote(%q): %q, not %q", s, got, want)
		}
	}
}

func wantQuoted(b byte) string {
	i := strings.IndexByte("\n\r\t\b\f", b)
	switch {
	case i >= 0:
		return `\` + "nrtbf"[i:i+1]
	case b == '(' || b == ')' || b == '\\':
		return string([]byte{'\\', b})
	case b < 32 || b > 126:
		return string([]byte{'\\', '0' + b/64, '0' + b/8%8, '0' + b%8})
	}
	return string([]byte{b})
}

func TestQuoteEachByte(t *testing.T) {
	all := ""
	for i := range 256 {
		want := wantQuoted(byte(i))
		all += want
		if got := Quote(string([]byte{byte(i)})); got != "("+want+")" {
			t.Errorf("Quote of %d: %q", i, got)
		}
	}
	if got := Quote(allBytes()); got != "("+all+")" {
		t.Errorf("Quote of all bytes: %q", got)
	}
}

func TestNameOf(t *testing.T) {
	for s, want := range map[string]string{
		"": "/", "A": "/A", "Name1": "/Name1", "A B": "/A#20B", "A#B": "/A#23B", "#41": "/#2341", "/": "/#2F", "()": "/#28#29", "<>": "/#3C#3E", "[]": "/#5B#5D", "{}": "/#7B#7D", "%": "/#25",
		"\x00": "/#00", "\t\n\f\r": "/#09#0A#0C#0D", "\x01": "/#01", "\x1f": "/#1F", "!": "/!", "~": "/~", "\x7f": "/#7F", "\x80": "/#80", "\xaf": "/#AF", "\xff": "/#FF", "é": "/#C3#A9", `\`: `/\`, "'": "/'",
	} {
		if got := NameOf(s); got != want {
			t.Errorf("NameOf(%q): %q, not %q", s, got, want)
		}
	}
}

func TestNameOfEachByte(t *testing.T) {
	const digitsOf16 = "0123456789ABCDEF"
	all := "/"
	for i := range 256 {
		b := byte(i)
		want := string([]byte{b})
		if !isRegular(b) || b == '#' || b < 33 || b > 126 {
			want = string([]byte{'#', digitsOf16[i/16], digitsOf16[i%16]})
		}
		all += want
		if got := NameOf(string([]byte{b})); got != "/"+want {
			t.Errorf("NameOf of %d: %q", i, got)
		}
	}
	if got := NameOf(allBytes()); got != all {
		t.Errorf("NameOf of all bytes: %q", got)
	}
}

// P3.4

func checkTold(t *testing.T, s string) {
	t.Helper()
	for _, x := range []struct {
		kind int
		told string
	}{{Text, Quote(s)}, {Name, NameOf(s)}} {
		checkNext(t, x.told, 0, Token{Kind: x.kind, S: s, To: len(x.told)}, api.OK)
		// Whatever can't go on with a name ends it; a text ends by itself.
		for _, end := range []string{" ", "\n", "/", "(", "[", ">>", "%"} {
			checkNext(t, x.told+end+"41", 0, Token{Kind: x.kind, S: s, To: len(x.told)}, api.OK)
		}
	}
	q := Quote(s)
	checkNext(t, q+"41)", 0, Token{Kind: Text, S: s, To: len(q)}, api.OK)
}

func TestToldIsRead(t *testing.T) {
	checkTold(t, "")
	checkTold(t, allBytes())
	checkTold(t, strings.Repeat(allBytes(), 500))
	for i := range 256 {
		for j := range 256 {
			checkTold(t, string([]byte{byte(i), byte(j)}))
		}
	}
	r := rand.New(rand.NewSource(5))
	for range 5000 {
		checkTold(t, someText(r))
	}
}

// P1

func TestNonePanics(t *testing.T) {
	for _, s := range []string{"", "(", "<", "/", "#", "/#", "%", "\\", "(\\", allBytes()} {
		for at := -2; at <= len(s)+2; at++ {
			checkBoth(t, s, at)
		}
		for _, at := range []int{math.MinInt, math.MaxInt, -1 << 31, 1 << 31} {
			checkBoth(t, s, at)
		}
	}
	for _, piece := range []string{"(", ")", "\\", "<", "<4", "/", "/#41", "%", "%\n", " ", "(\\1", "1", "a", "\xff", "[", "\r"} {
		long := strings.Repeat(piece, 1<<20)
		Space(long, 0)
		Next(long, 0)
		Quote(long)
		NameOf(long)
	}
	deep := strings.Repeat("(", 1<<20) + strings.Repeat(")", 1<<20)
	checkNext(t, deep, 0, Token{Kind: Text, S: deep[1 : len(deep)-1], To: len(deep)}, api.OK)
}

func FuzzLex(f *testing.F) {
	f.Add("/A#20B 1", 0)
	f.Add("(a\\(b\\\r\n\\12)<4 1>", 8)
	f.Add(" % \n <</A -1.5>>", 3)
	f.Fuzz(func(t *testing.T, s string, at int) {
		checkBoth(t, s, at)
		checkBoth(t, s, 0)
		checkTold(t, s)
	})
}
