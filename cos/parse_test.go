package cos

import (
	"math"
	"slices"
	"strconv"
	"strings"
	"testing"

	"inkstand/api"
)

// P4.1

func TestParseExamples(t *testing.T) {
	checkRead(t, "[1 0 R /A]", arr(ref(1, 0), name("A")))
	checkRead(t, "<</A null>>", dict())
}

func TestParsePlain(t *testing.T) {
	for s, want := range map[string]api.Obj{
		"true": truth(1), "false": truth(0), "null": null,
		"0": whole(0), "1": whole(1), "-1": whole(-1), "+7": whole(7), "2147483": whole(2147483), "-2147483": whole(-2147483),
		"1.": pointed(1000), "1.0": pointed(1000), ".5": pointed(500), "-.002": pointed(-2), "0.0": pointed(0), "2147483.648": pointed(api.MaxFix), "1.2345": pointed(1235),
		"/A": name("A"), "/": name(""), "/A#20B": name("A B"), "/null": name("null"), "/R": name("R"), "/1": name("1"), "/#00#ff": name("\x00\xff"),
		"()": text(""), "(a)": text("a"), "(1 0 R)": text("1 0 R"), "(a(b)\\)\\101)": text("a(b))A"), "<>": text(""), "<414>": text("A@"), "(\r\n\xff\x00)": text("\n\xff\x00"), "([<<)": text("[<<"),
		"[]": arr(), "[ ]": arr(), "[[]]": arr(arr()), "[[][]]": arr(arr(), arr()), "[null]": arr(null), "[true/A(b)<43>1 .5]": arr(truth(1), name("A"), text("b"), text("C"), whole(1), pointed(500)),
		"<<>>": dict(), "<< >>": dict(), "<</A<<>>>>": dict(entry("A", dict())), "<</A[]/B<</C(d)>>>>": dict(entry("A", arr()), entry("B", dict(entry("C", text("d"))))), "[<<>>[<</A[<<>>]>>]]": arr(dict(), arr(dict(entry("A", arr(dict()))))),
		"<</ 1>>": dict(entry("", whole(1))), "<</A/B>>": dict(entry("A", name("B"))), "<</A(a)/a(b)>>": dict(entry("A", text("a")), entry("a", text("b"))), "<</#41 1>>": dict(entry("A", whole(1))),
		"[%]\n1%\r]": arr(whole(1)), "<<%>>\n/A%/B\r1>>": dict(entry("A", whole(1))), "[null true null]": arr(null, truth(1), null),
	} {
		checkRead(t, s, want)
	}
	checkParse(t, "<<<41>", 2, text("A"), 6, api.OK)
	checkParse(t, "<</A 1>>", 2, name("A"), 4, api.OK)
	checkParse(t, "<</A 1>>", 4, whole(1), 6, api.OK)
	checkParse(t, "12", 1, whole(2), 2, api.OK)
	checkParse(t, "[1]]", 0, arr(whole(1)), 3, api.OK)
	checkParse(t, "<<>>>>", 0, dict(), 4, api.OK)
}

func TestParseRefs(t *testing.T) {
	for s, want := range map[string]api.Obj{
		"1 0 R": ref(1, 0), "0 0 R": ref(0, 0), "12 34 R": ref(12, 34), "+1 +2 R": ref(1, 2), "-0 0 R": ref(0, 0), "0 -0 R": ref(0, 0), "007 01 R": ref(7, 1),
		"2147483 2147483 R": ref(2147483, 2147483), "1\x00\t\n0\f\r R": ref(1, 0), "1%R\n0%1\rR": ref(1, 0), "1 0%\n%\nR": ref(1, 0),
	} {
		checkRead(t, s, want)
	}
	for s, want := range map[string]api.Obj{
		"[1 0 R 2 0 R]": arr(ref(1, 0), ref(2, 0)), "[1 2 3 R]": arr(whole(1), ref(2, 3)), "[1 2 3 4 R 5]": arr(whole(1), whole(2), ref(3, 4), whole(5)), "[1 0 R 5 R]": null,
		"[1 0 R[2 0 R]]": arr(ref(1, 0), arr(ref(2, 0))), "<</A 1 0 R/B 2 0 R>>": dict(entry("A", ref(1, 0)), entry("B", ref(2, 0))), "[1 0 R/R]": arr(ref(1, 0), name("R")),
		"[1 0]": arr(whole(1), whole(0)), "[1]": arr(whole(1)), "[1 0/R]": arr(whole(1), whole(0), name("R")), "[1 0(R)]": arr(whole(1), whole(0), text("R")), "[1 0 true]": arr(whole(1), whole(0), truth(1)), "[1/A 0]": arr(whole(1), name("A"), whole(0)),
	} {
		if want.Kind == api.Null {
			checkWrong(t, s, api.ErrForm)
		} else {
			checkRead(t, s, want)
		}
	}
}

// Two numbers that are no Ref: the first one is a Num, and it ends right behind itself.
func TestParseNoRefs(t *testing.T) {
	for _, x := range []struct {
		s    string
		want api.Obj
		to   int
	}{
		{"1 0", whole(1), 1}, {"1 0 ", whole(1), 1}, {"1", whole(1), 1}, {"1 R", whole(1), 1}, {"1 0 r", whole(1), 1}, {"1 0 RR", whole(1), 1}, {"1 0 R1", whole(1), 1}, {"1 0R", whole(1), 1}, {"1 0 obj", whole(1), 1}, {"1 0 /R", whole(1), 1}, {"1 0 (R)", whole(1), 1}, {"1 0 1 R", whole(1), 1}, {"1 0 null", whole(1), 1}, {"1 0 ]R", whole(1), 1}, {"1 0 #52", whole(1), 1},
		{"1.0 0 R", pointed(1000), 3}, {"1. 0 R", pointed(1000), 2}, {"1.5 0 R", pointed(1500), 3}, {".0 0 R", pointed(0), 2}, {"1 0.0 R", whole(1), 1}, {"1 0. R", whole(1), 1}, {"1 .5 R", whole(1), 1},
		{"-1 0 R", whole(-1), 2}, {"1 -1 R", whole(1), 1}, {"-1 -1 R", whole(-1), 2}, {"1 true R", whole(1), 1}, {"1 /A R", whole(1), 1}, {"1 (0) R", whole(1), 1}, {"1 [0] R", whole(1), 1}, {"1 <<0 R", whole(1), 1},
		// lex's errors ahead are nobody's yet.
		{"1 )", whole(1), 1}, {"1 (", whole(1), 1}, {"1 1a R", whole(1), 1}, {"1 99999999 R", whole(1), 1}, {"1 0 )", whole(1), 1}, {"1 0 (R", whole(1), 1}, {"1 0 1a", whole(1), 1}, {"1 0 99999999", whole(1), 1}, {"1 0 > R", whole(1), 1},
	} {
		checkParse(t, x.s, 0, x.want, x.to, api.OK)
		checkParse(t, " "+x.s, 1, x.want, x.to+1, api.OK)
	}
	for s, e := range map[string]api.Errno{
		"[1 )]": api.ErrForm, "[1 0 )]": api.ErrForm, "[1 (]": api.ErrShort, "[1 0 (R]": api.ErrShort, "[1 99999999 R]": api.ErrRange, "[1 0 99999999]": api.ErrRange, "[1 0": api.ErrShort, "[1 0 R": api.ErrShort, "[1": api.ErrShort,
		"[1.0 0 R]": api.ErrForm, "[1 0.0 R]": api.ErrForm, "[-1 0 R]": api.ErrForm, "[1 -1 R]": api.ErrForm, "[1 R]": api.ErrForm, "[R]": api.ErrForm, "[1 0 RR]": api.ErrForm, "[1 0 x 99999999]": api.ErrForm, "[1 0 99999999 x]": api.ErrRange,
		"<</A 1 0>>": api.ErrForm, "<</A 1 0": api.ErrForm, "<</A 1 0 R 5>>": api.ErrForm, "<</A 1.0 0 R>>": api.ErrForm, "<</A 1 )": api.ErrForm, "<</A 1 (": api.ErrShort, "<</A 1": api.ErrShort, "<</A 1 0 R": api.ErrShort,
	} {
		checkWrong(t, s, e)
	}
}

func TestParseKeys(t *testing.T) {
	a, b, c := func(n int) api.Entry { return entry("A", whole(n)) }, func(n int) api.Entry { return entry("B", whole(n)) }, entry("C", whole(9))
	for s, want := range map[string]api.Obj{
		"<</A 1/B 2>>": dict(a(1), b(2)), "<</B 2/A 1>>": dict(b(2), a(1)),
		// One key twice.
		"<</A 1/A 2>>": dict(a(2)), "<</A 1/A 2/A 3>>": dict(a(3)), "<</A 1/B 2/A 3>>": dict(a(3), b(2)), "<</B 2/A 1/C 9/A 3>>": dict(b(2), a(3), c), "<</A 1/B 2/A 3/B 4>>": dict(a(3), b(4)), "<</A 1/#41 2>>": dict(a(2)), "<</A 1/a 2>>": dict(a(1), entry("a", whole(2))),
		// null.
		"<</A null>>": dict(), "<</A null/B null>>": dict(), "<</A null/B 2>>": dict(b(2)), "<</A 1/B null>>": dict(a(1)), "<</A 1/B null/C 9>>": dict(a(1), c), "<</A/null>>": dict(entry("A", name("null"))), "<</A[null]>>": dict(entry("A", arr(null))), "<</A null/A null>>": dict(),
		// null behind another one of that key, and ahead of it.
		"<</A 1/A null>>": dict(), "<</A 1/B 2/A null>>": dict(b(2)), "<</A 1/B 2/A null/C 9>>": dict(b(2), c), "<</A 1/A 2/A null>>": dict(), "<</A null/A 1>>": dict(a(1)), "<</A null/B 2/A 1>>": dict(b(2), a(1)), "<</A 1/A null/A null>>": dict(),
		// What is left out is no first one any more.
		"<</A 1/B 2/A null/A 3>>": dict(b(2), a(3)), "<</A 1/B 2/A null/A 3/B null>>": dict(a(3)), "<</A 1/A null/A 3/B 2/A 4>>": dict(a(4), b(2)), "<</A 1/B 2/C 9/A null/B 5>>": dict(b(5), c), "<</A 1/B 2/A null/B null/C 9/B 3>>": dict(c, b(3)),
	} {
		checkRead(t, s, want)
	}
	checkRead(t, "<</A<</A 1/A null>>/A<</B null/A 2/A 3>>>>", dict(entry("A", dict(a(3)))))
}

func TestParsePlaces(t *testing.T) {
	for _, s := range []string{"", "1", "[", " ", "1 0 R", "%", "null"} {
		for _, at := range []int{-1, len(s) + 1, math.MinInt, math.MaxInt} {
			checkParse(t, s, at, null, 0, api.ErrArg)
		}
		checkParse(t, s, len(s), null, 0, api.ErrShort)
	}
}

func TestParseWrong(t *testing.T) {
	for s, e := range map[string]api.Errno{
		// The end, everywhere.
		"": api.ErrShort, " ": api.ErrShort, "%]": api.ErrShort, "[": api.ErrShort, "[1": api.ErrShort, "[ ": api.ErrShort, "[[]": api.ErrShort, "[<<>>": api.ErrShort, "<<": api.ErrShort, "<</A": api.ErrShort, "<</A 1": api.ErrShort, "<</A 1/B": api.ErrShort, "<</A<<>>": api.ErrShort, "<</A[": api.ErrShort, "[<</A": api.ErrShort, "<</A 1%>>": api.ErrShort, "[1%]": api.ErrShort,
		// What closes, where it may not.
		"]": api.ErrForm, ">>": api.ErrForm, "[>>": api.ErrForm, "[1>>": api.ErrForm, "<<]": api.ErrForm, "<</A]": api.ErrForm, "<</A>>": api.ErrForm, "<</A 1]": api.ErrForm, "<</A 1/B>>": api.ErrForm, "[<<]>>": api.ErrForm, "<</A[>>]": api.ErrForm,
		// What is no Name for a key.
		"<<1 1>>": api.ErrForm, "<<(A)1>>": api.ErrForm, "<<true 1>>": api.ErrForm, "<<x 1>>": api.ErrForm, "<<null 1>>": api.ErrForm, "<<[]1>>": api.ErrForm, "<<<<>>1>>": api.ErrForm, "<</A 1 2>>": api.ErrForm, "<</A 1 true>>": api.ErrForm, "<<1": api.ErrForm, "<<(A)": api.ErrForm,
		// Other Words.
		"R": api.ErrForm, "obj": api.ErrForm, "endobj": api.ErrForm, "True": api.ErrForm, "TRUE": api.ErrForm, "nul": api.ErrForm, "nulll": api.ErrForm, "true1": api.ErrForm, "false.": api.ErrForm, "f": api.ErrForm, "[x]": api.ErrForm, "<</A x>>": api.ErrForm, "\xff": api.ErrForm, "'": api.ErrForm,
		// lex's errors.
		")": api.ErrForm, "}": api.ErrForm, "{": api.ErrForm, ">": api.ErrForm, "/#4": api.ErrForm, "<4x>": api.ErrForm, "1a": api.ErrForm, "-": api.ErrForm, "(": api.ErrShort, "(a(b)": api.ErrShort, "<4": api.ErrShort, "<": api.ErrShort, "99999999": api.ErrRange, strings.Repeat("0", 401): api.ErrRange,
		"[)": api.ErrForm, "[(a": api.ErrShort, "[99999999": api.ErrRange, "[1>]": api.ErrForm, "<<)": api.ErrForm, "<<(A": api.ErrShort, "<<99999999": api.ErrRange, "<</#4 1>>": api.ErrForm, "<</A)": api.ErrForm, "<</A(": api.ErrShort, "<</A 99999999>>": api.ErrRange, "<</A 1>": api.ErrForm, "<</A 1)": api.ErrForm,
		// The first one in the order of the text.
		"[x (": api.ErrForm, "[x 99999999": api.ErrForm, "[99999999 x": api.ErrRange, "[(x": api.ErrShort, "<<1 99999999>>": api.ErrForm, "<</A x(": api.ErrForm, "<</A>>(": api.ErrForm, "<</A 99999999]": api.ErrRange, "[[x]99999999]": api.ErrForm, "[[99999999]x]": api.ErrRange,
	} {
		checkWrong(t, s, e)
	}
}

// What stands behind the object is not looked at.
func TestParseEnds(t *testing.T) {
	for _, s := range []string{"null", "1", "/A", "(a)", "[1]", "<</A 1>>", "1 0 R", "true"} {
		for _, behind := range []string{")", "(", " 1a", "]", ">>", " endobj", " \xff", "\x00", "%"} {
			o, to, e := Parse(s, 0)
			checkParse(t, s+behind, 0, o, to, e)
		}
	}
}

// P4.1: limits

// nested is n Arrs in one another, with s in the innermost.
func nested(n int, s string) string {
	return strings.Repeat("[", n) + s + strings.Repeat("]", n)
}

// deepDicts is n Dicts in one another, with s for the innermost one's entries.
func deepDicts(n int, s string) string {
	return strings.Repeat("<</A ", n-1) + "<<" + s + ">>" + strings.Repeat(">>", n-1)
}

func TestParseDeep(t *testing.T) {
	for s, n := range map[string]int{
		nested(64, ""): 64, nested(64, "1 0 R"): 65, deepDicts(64, ""): 64, deepDicts(64, "/B 1"): 65, nested(32, deepDicts(32, "")): 64, "<</A" + nested(63, "") + ">>": 64, "[" + deepDicts(63, "") + "]": 64, nested(63, "[][]<<>>[]"): 67, nested(62, "[<<>>[]]<</A[]>>"): 67,
	} {
		if o, to, e := Parse(s, 0); e != api.OK || to != len(s) || Count(o) != n {
			t.Errorf("%q: %d %d %v", s, Count(o), to, e)
		}
	}
	for _, s := range []string{
		nested(65, ""), deepDicts(65, ""), nested(64, "<<>>"), nested(33, deepDicts(32, "")), "<</A" + nested(64, "") + ">>", "[" + deepDicts(64, "") + "]", deepDicts(64, "/B[]"), deepDicts(64, "/B<<>>"), nested(63, "[][]<</A[]>>"), nested(64, "1 2 []"),
		// Told at what opens, whatever is behind it.
		strings.Repeat("[", 65), strings.Repeat("[", 65) + ")", strings.Repeat("[", 65) + "x", strings.Repeat("[", 64) + "<<", strings.Repeat("[", 64) + "<<1", strings.Repeat("<</A", 64) + "[", strings.Repeat("<</A", 64) + "<<", strings.Repeat("[", 65) + ">>", strings.Repeat("[", 1<<20), strings.Repeat("<</A", 1<<18), strings.Repeat("[<</A", 1<<18),
	} {
		checkWrong(t, s, api.ErrDeep)
	}
	for s, e := range map[string]api.Errno{
		strings.Repeat("[", 64): api.ErrShort, strings.Repeat("[", 64) + ")": api.ErrForm, strings.Repeat("[", 64) + "x[": api.ErrForm, strings.Repeat("[", 64) + "99999999[": api.ErrRange, strings.Repeat("[", 64) + ">>[": api.ErrForm, strings.Repeat("<</A", 64): api.ErrShort, strings.Repeat("<</A", 63) + "<<[": api.ErrForm, strings.Repeat("<</A", 63) + "<<<<": api.ErrForm, strings.Repeat("[", 64) + "(": api.ErrShort,
	} {
		checkWrong(t, s, e)
	}
}

// Those beside one another are not in one another.
func TestParseBeside(t *testing.T) {
	s := "[" + strings.Repeat("[[]]<</A<<>>>>", 512) + "]"
	if o, to, e := Parse(s, 0); e != api.OK || to != len(s) || len(o.L) != 1024 {
		t.Errorf("%d %d %v", len(o.L), to, e)
	}
	s = nested(62, strings.Repeat("[[]]", 500)+"[<<>>]")
	if _, to, e := Parse(s, 0); e != api.OK || to != len(s) {
		t.Errorf("%d %v", to, e)
	}
	checkWrong(t, nested(62, strings.Repeat("[[]]", 500)+"[[<<>>]]"), api.ErrDeep)
}

func TestParseManyObjects(t *testing.T) {
	for _, one := range []string{" 1", " .5", "/A", "(a)", " null", " true", "[]", "<<>>", " 1 0 R", "[1 2]", "<</A 1>>"} {
		full := "[" + strings.Repeat(one, 1024)
		want, _, e := Parse(one, 0)
		if e != api.OK {
			t.Fatal(one, e)
		}
		checkParse(t, full+"]", 0, arr(slices.Repeat([]api.Obj{want}, 1024)...), len(full)+1, api.OK)
		checkWrong(t, full+one+"]", api.ErrLarge)
		checkFull(t, full, "]", ">>")
		checkFull(t, "[["+strings.Repeat(one, 1024), "]]", ">>")
		checkFull(t, "<</A["+strings.Repeat(one, 1024), "]>>", ">>")
	}
	checkFull(t, strings.Repeat("[", 64)+strings.Repeat(" 1", 1024), strings.Repeat("]", 64), ">>")
	checkWrong(t, "["+strings.Repeat("1 ", 1<<20), api.ErrLarge)
}

func TestParseManyEntries(t *testing.T) {
	written := ""
	var d []api.Entry
	for i := range 1024 {
		written += "/K" + strconv.Itoa(i) + " 1"
		d = append(d, entry("K"+strconv.Itoa(i), whole(1)))
	}
	for _, x := range []struct {
		entries string
		want    api.Obj
	}{
		{written, dict(d...)},
		// They are counted as they are written.
		{strings.Repeat("/A 1", 1024), dict(entry("A", whole(1)))},
		{strings.Repeat("/A null", 1024), dict()},
		{strings.Repeat("/A 1/A null", 512), dict()},
		{strings.Repeat("/A 1 0 R", 1023) + "/B 2", dict(entry("A", ref(1, 0)), entry("B", whole(2)))},
	} {
		checkParse(t, "<<"+x.entries+">>", 0, x.want, len(x.entries)+4, api.OK)
		checkWrong(t, "<<"+x.entries+"/L 1>>", api.ErrLarge)
		checkWrong(t, "<<"+x.entries+"/L null>>", api.ErrLarge)
		checkFull(t, "<<"+x.entries, ">>", "]")
		checkFull(t, "[<<"+x.entries, ">>]", "]")
		checkFull(t, strings.Repeat("[", 63)+"<<"+x.entries, ">>"+strings.Repeat("]", 63), "]")
	}
	checkWrong(t, "<<"+strings.Repeat("/A 1", 1<<20), api.ErrLarge)
}

// checkFull asks what is answered where full, that may have no more in it, goes on: whatever stands there is too many, but what closes it, lex's errors and the end.
func checkFull(t *testing.T, full, closes, other string) {
	t.Helper()
	if _, to, e := Parse(full+closes, 0); e != api.OK || to != len(full+closes) {
		t.Errorf("%.60q..: %d %v", full, to, e)
	}
	for _, more := range []string{" 1", " 1 0 R", " .5", "/L", "(l)", "<41>", "[", "<<", "[]", " true", " null", " x", " endobj", other, strings.Repeat("[", 65)} {
		checkWrong(t, full+more, api.ErrLarge)
		checkWrong(t, full+more+closes, api.ErrLarge)
	}
	for more, e := range map[string]api.Errno{")": api.ErrForm, "}": api.ErrForm, ">x": api.ErrForm, " 1a": api.ErrForm, "/#4": api.ErrForm, "<x>": api.ErrForm, "(": api.ErrShort, "<4": api.ErrShort, " 99999999": api.ErrRange, "": api.ErrShort, " ": api.ErrShort, "%]>>": api.ErrShort} {
		checkWrong(t, full+more, e)
	}
}
