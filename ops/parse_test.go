package ops

import (
	"strings"
	"testing"

	"inkstand/api"
)

// P11.1

func TestExample(t *testing.T) {
	checkParse(t, "1 0 0 rg /F Tf", []Op{op("rg", whole(1), whole(0), whole(0)), op("Tf", name("F"))}, api.OK)
}

// Whatever may stand between two tokens.
var whites = []string{" ", "\x00\t\n\f\r ", "%\n", "% q (\r", "\n%%[\n\n"}

func TestNoOperators(t *testing.T) {
	checkParse(t, "", nil, api.OK)
	for _, white := range whites {
		checkParse(t, white, nil, api.OK)
		checkParse(t, white+white, nil, api.OK)
	}
	checkParse(t, "% q", nil, api.OK)
}

func TestWhiteBetween(t *testing.T) {
	want := []Op{op("q"), op("rg", whole(1), pointed(500), whole(-1)), op("Tf", name("F"), whole(12)), op("f*")}
	for _, white := range whites {
		s := strings.ReplaceAll(" q 1 .5 -1 rg /F 12 Tf f* ", " ", white)
		checkParse(t, s, want, api.OK)
		checkParse(t, strings.TrimSuffix(s, white), want, api.OK)
	}
	checkParse(t, "q/F 12Tf", nil, api.ErrForm)
	checkParse(t, "(a)Tj[(b)]TJ<41>'/F<<>>DP/B[]null TJ", []Op{op("Tj", text("a")), op("TJ", arr(text("b"))), op("'", text("A")), op("DP", name("F"), dict()), op("TJ", name("B"), arr(), null)}, api.OK)
}

func TestOperatorNames(t *testing.T) {
	for _, s := range []string{"q", "R", "True", "trueq", "nul", "BIT", "bi", "ID", "EI", "obj", "endobj", "stream", "T*", "'", "\"", "#41", "a#", "\\", "a+1", "e.", "\x01", "\x7f", "\xff\xfe", "é", strings.Repeat("x", 70000)} {
		checkParse(t, s, []Op{op(s)}, api.OK)
		checkParse(t, "1 "+s+"/A "+s, []Op{op(s, whole(1)), op(s, name("A"))}, api.OK)
	}
}

func TestObjectsOfEachKind(t *testing.T) {
	for s, o := range map[string]api.Obj{"null": null, "true": truth(1), "false": truth(0), "1": whole(1), "+1": whole(1), "-0": whole(0), "1.0": pointed(1000), "-.0005": pointed(-1), "/A#42": name("AB"), "/": name(""), "(a\\(b)": text("a(b"), "<4>": text("@"), "[]": arr(), "[1 0 R /A]": arr(ref(1, 0), name("A")), "[[2 7 R]]": arr(arr(ref(2, 7))), "<</A 1 0 R>>": dict(entry("A", ref(1, 0))), "<<>>": dict(), "<</A null/B[null]>>": dict(entry("B", arr(null))), "<</A 1/A 2>>": dict(entry("A", whole(2)))} {
		checkParse(t, s+" x", []Op{op("x", o)}, api.OK)
		checkParse(t, "q "+s+" "+s+"\nx Q", []Op{op("q"), op("x", o, o), op("Q")}, api.OK)
		checkParse(t, "/N "+s+" 7 x", []Op{op("x", name("N"), o, whole(7))}, api.OK)
		checkParse(t, s, nil, api.ErrForm)
		checkParse(t, "q "+s+"%", nil, api.ErrForm)
	}
}

func TestNoRefOutside(t *testing.T) {
	for s, l := range map[string][]api.Obj{"1 0": {whole(1), whole(0)}, "1 2 0": {whole(1), whole(2), whole(0)}, "[1 0 R]1 0": {arr(ref(1, 0)), whole(1), whole(0)}, "[1 0]": {arr(whole(1), whole(0))}, "[1]0": {arr(whole(1)), whole(0)}, "1 0%\n": {whole(1), whole(0)}, "<</A 1>>0": {dict(entry("A", whole(1))), whole(0)}} {
		checkParse(t, s+" R", []Op{op("R", l...)}, api.OK)
		checkParse(t, s+" R 3 0 R q", []Op{op("R", l...), op("R", whole(3), whole(0)), op("q")}, api.OK)
		checkParse(t, s+" R 3 0 R 4", nil, api.ErrForm)
	}
}

func TestObjectsBehindTheLast(t *testing.T) {
	for _, s := range []string{"1", "q 1", "q null", "q Q true false", "1 0 0 rg /F", "q []", "q <</A 1>>", "q(", "q [", strings.Repeat("1 ", 64)} {
		e := api.Errno(api.ErrForm)
		if strings.HasSuffix(s, "(") || strings.HasSuffix(s, "[") {
			e = api.ErrShort
		}
		checkParse(t, s, nil, e)
		checkParse(t, s+" % x", nil, e)
	}
}

func TestManyObjects(t *testing.T) {
	some := strings.Repeat("1 ", 64)
	l := make([]api.Obj, 64)
	for i := range l {
		l[i] = whole(1)
	}
	checkParse(t, some+"x", []Op{op("x", l...)}, api.OK)
	checkParse(t, some+"% 1\nx "+some+" y", []Op{op("x", l...), op("y", l...)}, api.OK)
	checkParse(t, strings.Repeat("x 1 2 3 4 ", 40)+"x", append(slicesOf(op("x"), 1), slicesOf(op("x", whole(1), whole(2), whole(3), whole(4)), 40)...), api.OK)
	for behind, e := range map[string]api.Errno{
		// What is no object, and is not told as one, but by its first token.
		"x":     api.OK,
		"R":     api.OK,
		"BI":    api.ErrForm,
		"1":     api.ErrLarge,
		"1 x":   api.ErrLarge,
		"null":  api.ErrLarge,
		"true":  api.ErrLarge,
		"false": api.ErrLarge,
		"/A":    api.ErrLarge,
		"(a)":   api.ErrLarge,
		"<a>":   api.ErrLarge,
		"[]":    api.ErrLarge,
		"<<>>":  api.ErrLarge,
		// What would be cos.Parse's error.
		"]":      api.ErrLarge,
		">>":     api.ErrLarge,
		"[":      api.ErrLarge,
		"[)":     api.ErrLarge,
		"[x]":    api.ErrLarge,
		"<<":     api.ErrLarge,
		"<</A":   api.ErrLarge,
		"<<1>>":  api.ErrLarge,
		"[99999": api.ErrLarge,
		// lex's errors.
		"(a":       api.ErrShort,
		"<a":       api.ErrShort,
		"<x>":      api.ErrForm,
		")":        api.ErrForm,
		">":        api.ErrForm,
		"{":        api.ErrForm,
		"/#":       api.ErrForm,
		"1a":       api.ErrForm,
		"99999999": api.ErrRange,
		// The end: there is no 65th.
		"":    api.ErrForm,
		"% x": api.ErrForm,
	} {
		want := []Op{op(strings.TrimSpace(behind), l...)}
		if e != api.OK {
			want = nil
		}
		checkParse(t, some+behind, want, e)
		if e != api.OK {
			checkParse(t, "1 0 0 rg\n"+some+"\n"+behind, nil, e)
		}
	}
	checkParse(t, strings.Repeat("[1 0 R] ", 65)+"x", nil, api.ErrLarge)
}

// slicesOf is an operator so many times.
func slicesOf(o Op, n int) []Op {
	var l []Op
	for range n {
		l = append(l, o)
	}
	return l
}

func TestManyOperators(t *testing.T) {
	many := strings.Repeat("q ", 65536)
	l := slicesOf(op("q"), 65536)
	checkParse(t, many, l, api.OK)
	checkParse(t, many+"% x", l, api.OK)
	checkParse(t, strings.Repeat("q ", 65535)+"1 0 0 rg", append(l[:65535:65535], op("rg", whole(1), whole(0), whole(0))), api.OK)
	for behind, e := range map[string]api.Errno{"x": api.ErrLarge, "BI": api.ErrLarge, "1 x": api.ErrLarge, "x (": api.ErrLarge, "x BI": api.ErrLarge, "1": api.ErrForm, "(": api.ErrShort, "]": api.ErrForm, "[x]": api.ErrForm, "99999999 x": api.ErrRange, strings.Repeat("1 ", 64): api.ErrForm, strings.Repeat("1 ", 65): api.ErrLarge, strings.Repeat("1 ", 64) + "x": api.ErrLarge, strings.Repeat("1 ", 64) + "(": api.ErrShort} {
		checkParse(t, many+behind, nil, e)
	}
	checkParse(t, strings.Repeat("q ", 65535)+"BI", nil, api.ErrForm)
	checkParse(t, strings.Repeat("q ", 70000), nil, api.ErrLarge)
}

func TestImage(t *testing.T) {
	for _, s := range []string{"BI", "q BI", "BI /W 1 ID x EI", "1 BI", "BI (", "/A BI\n]", "BI BI"} {
		checkParse(t, s, nil, api.ErrForm)
	}
	checkParse(t, "/BI x (BI)x [/BI]x % BI\n", []Op{op("x", name("BI")), op("x", text("BI")), op("x", arr(name("BI")))}, api.OK)
	checkParse(t, "[BI]x", nil, api.ErrForm)
	checkParse(t, "ID EI", named("ID EI"), api.OK)
}

func TestWrongTexts(t *testing.T) {
	for s, e := range map[string]api.Errno{
		"]": api.ErrForm, ">>": api.ErrForm, "]x": api.ErrForm, "q ] Q": api.ErrForm, "[>>": api.ErrForm, "<</A]": api.ErrForm,
		"[x] y": api.ErrForm, "[true x]": api.ErrForm, "<</A x>>": api.ErrForm, "<<x>>": api.ErrForm, "<</A>>": api.ErrForm,
		"[": api.ErrShort, "<<": api.ErrShort, "<</A": api.ErrShort, "q [1 0": api.ErrShort, "(": api.ErrShort, "q <4": api.ErrShort,
		"{": api.ErrForm, "}": api.ErrForm, ")": api.ErrForm, "q >": api.ErrForm, "/#4": api.ErrForm, "<4x>": api.ErrForm, "1-": api.ErrForm,
		"2147483.649 x": api.ErrRange, "[99999999]x": api.ErrRange, "1 99999999 R": api.ErrRange,
	} {
		for _, ahead := range []string{"", " ", "q ", "1 0 0 rg ", "%\n", "1 0 "} {
			checkParse(t, ahead+s, nil, e)
		}
	}
	deep := strings.Repeat("[", 64) + strings.Repeat("]", 64)
	checkParse(t, deep+"x", []Op{op("x", arrs(64))}, api.OK)
	checkParse(t, "["+deep+"]x", nil, api.ErrDeep)
	checkParse(t, "q "+strings.Repeat("[", 65), nil, api.ErrDeep)
	wide := strings.Repeat("0 ", 1024)
	checkParse(t, "["+wide+"]x", []Op{op("x", zeros(1024))}, api.OK)
	checkParse(t, "["+wide+"0]x", nil, api.ErrLarge)
	checkParse(t, "<<"+strings.Repeat("/A 1", 1025)+">>x", nil, api.ErrLarge)
}

// arrs are so many Arrs in one another.
func arrs(n int) api.Obj {
	o := arr()
	for range n - 1 {
		o = arr(o)
	}
	return o
}

func zeros(n int) api.Obj {
	l := make([]api.Obj, n)
	for i := range l {
		l[i] = whole(0)
	}
	return arr(l...)
}

// Each thing that is wrong, ahead of each other one: it is the first that is told.
func TestFirstError(t *testing.T) {
	wrong := map[string]api.Errno{"]": api.ErrForm, "[ x": api.ErrForm, "BI ": api.ErrForm, "(": api.ErrShort, "99999999 ": api.ErrRange, strings.Repeat("[", 65): api.ErrDeep, strings.Repeat("1 ", 65): api.ErrLarge, strings.Repeat("x ", 65537): api.ErrLarge, "<</A 99999999 ": api.ErrRange}
	for a, e := range wrong {
		for b := range wrong {
			if e != api.ErrShort {
				checkParse(t, a+b, nil, e)
				checkParse(t, "q\n"+a+"\n"+b, nil, e)
			}
			checkParse(t, a, nil, e)
		}
	}
}

func TestAnswersShareNothing(t *testing.T) {
	l, _ := Parse("1 2 x 3 4 y z 5 w")
	for i := range l {
		_ = append(l[i].Args, name("more"))
		clear(l[i].Args)
		for j := i + 1; j < len(l); j++ {
			for _, o := range l[j].Args {
				if o.Kind != api.Num {
					t.Error("of", i, "changed, also of", j)
				}
			}
		}
	}
}
