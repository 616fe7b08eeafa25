package cos

import (
	"math"
	"strconv"
	"strings"
	"testing"

	"inkstand/api"
)

// P4.2

func checkIndirect(t *testing.T, s string, at, n, g int, want api.Obj, to int, e api.Errno) {
	t.Helper()
	gotN, gotG, o, gotTo, err := Indirect(s, at)
	if gotN != n || gotG != g || !equal(o, want) || gotTo != to || err != e {
		t.Errorf("Indirect(%.90q, %d): %d %d %s %d %v, not %d %d %s %d %v", s, at, gotN, gotG, short(o), gotTo, err, n, g, short(want), to, e)
	}
}

// checkNumbered asks that s is one numbered object from its begin to its end, and the same one among others.
func checkNumbered(t *testing.T, s string, n, g int, want api.Obj) {
	t.Helper()
	checkIndirect(t, s, 0, n, g, want, len(s), api.OK)
	checkIndirect(t, "%x\n "+s, 0, n, g, want, len(s)+4, api.OK)
	checkIndirect(t, ")\x00"+s+"\n)", 1, n, g, want, len(s)+2, api.OK)
	checkIndirect(t, s+" 2 0 obj", 0, n, g, want, len(s), api.OK)
}

// checkWrongNumbered asks for an error, and nothing else.
func checkWrongNumbered(t *testing.T, s string, e api.Errno) {
	t.Helper()
	checkIndirect(t, s, 0, 0, 0, null, 0, e)
	checkIndirect(t, ")%\n"+s, 1, 0, 0, null, 0, e)
}

func TestIndirect(t *testing.T) {
	for _, x := range []struct {
		s    string
		n, g int
		want api.Obj
	}{
		{"1 0 obj null endobj", 1, 0, null},
		{"0 0 obj 5 endobj", 0, 0, whole(5)},
		{"12 34 obj[1 0 R/A]endobj", 12, 34, arr(ref(1, 0), name("A"))},
		{"+1 -0 obj(a)endobj", 1, 0, text("a")},
		{"2147483 2147483 obj\ntrue\nendobj", 2147483, 2147483, truth(1)},
		{"1 0 obj<</A 1/A null/B 2>>endobj", 1, 0, dict(entry("B", whole(2)))},
		{"1 0 obj 5 0 R endobj", 1, 0, ref(5, 0)},
		{"1 0 obj 5.0 endobj", 1, 0, pointed(5000)},
		{"1%\r0%\nobj%\n/A%\nendobj", 1, 0, name("A")},
		{"1 0 obj" + nested(64, "") + "endobj", 1, 0, parsed(t, nested(64, ""))},
		{"1 0 obj<</Length 5>>endobj", 1, 0, dict(entry("Length", whole(5)))},
	} {
		checkNumbered(t, x.s, x.n, x.g, x.want)
	}
	checkIndirect(t, "11 0 obj 5 endobj", 1, 1, 0, whole(5), 17, api.OK)
}

func parsed(t *testing.T, s string) api.Obj {
	t.Helper()
	o, _, e := Parse(s, 0)
	if e != api.OK {
		t.Fatal(s, e)
	}
	return o
}

func TestIndirectWrong(t *testing.T) {
	for s, e := range map[string]api.Errno{
		// The end, everywhere.
		"": api.ErrShort, " %": api.ErrShort, "1": api.ErrShort, "1 0": api.ErrShort, "1 0 obj": api.ErrShort, "1 0 obj ": api.ErrShort, "1 0 obj 5": api.ErrShort, "1 0 obj[": api.ErrShort, "1 0 obj<<>>": api.ErrShort, "1 0 obj 5 0 R": api.ErrShort, "1 0 obj 5 %endobj": api.ErrShort,
		// Something else.
		"obj": api.ErrForm, "/A": api.ErrForm, "1 obj": api.ErrForm, "1 0 5 obj": api.ErrForm, "1 0 R": api.ErrForm, "1 0 Obj 5 endobj": api.ErrForm, "1 0 object 5 endobj": api.ErrForm, "1 0 /obj 5 endobj": api.ErrForm, "1 0 (obj)5 endobj": api.ErrForm, "(1)0 obj 5 endobj": api.ErrForm, "1[0]obj 5 endobj": api.ErrForm, "endobj": api.ErrForm, "[1 0 obj": api.ErrForm, "]": api.ErrForm, ">>": api.ErrForm, "1>>": api.ErrForm, "1 0]": api.ErrForm,
		"-1 0 obj 5 endobj": api.ErrForm, "1 -1 obj 5 endobj": api.ErrForm, "1.0 0 obj 5 endobj": api.ErrForm, "1 0. obj 5 endobj": api.ErrForm, "1.5 0 obj 5 endobj": api.ErrForm,
		"1 0 obj endobj": api.ErrForm, "1 0 obj x endobj": api.ErrForm, "1 0 obj]": api.ErrForm, "1 0 obj>>": api.ErrForm, "1 0 obj[>>": api.ErrForm, "1 0 obj<<1": api.ErrForm, "1 0 obj obj": api.ErrForm,
		"1 0 obj 5 6 endobj": api.ErrForm, "1 0 obj 5 obj": api.ErrForm, "1 0 obj 5 Endobj": api.ErrForm, "1 0 obj 5 endobj1": api.ErrForm, "1 0 obj 5/endobj": api.ErrForm, "1 0 obj 5 endstream": api.ErrForm, "1 0 obj 5]": api.ErrForm, "1 0 obj(a)(b)": api.ErrForm, "1 0 obj<<>>5": api.ErrForm, "1 0 obj<<>>endstream": api.ErrForm, "1 0 obj 5 null": api.ErrForm,
		// What is no Dict has no bytes.
		"1 0 obj 5 stream\na\nendstream endobj": api.ErrForm, "1 0 obj null stream\n\nendstream endobj": api.ErrForm, "1 0 obj[/Length 0]stream\n\nendstream endobj": api.ErrForm, "1 0 obj 1 0 R stream\n\nendstream endobj": api.ErrForm, "1 0 obj[<</Length 0>>]stream\n\nendstream endobj": api.ErrForm,
		// lex's errors, and those of the object.
		")": api.ErrForm, "1a": api.ErrForm, "99999999 0 obj": api.ErrRange, "1 99999999 obj": api.ErrRange, "1 (": api.ErrShort, "1 0 (": api.ErrShort, "1 0 99999999": api.ErrRange, "1 0 obj 99999999": api.ErrRange, "1 0 obj(": api.ErrShort, "1 0 obj)": api.ErrForm, "1 0 obj 5 99999999": api.ErrRange, "1 0 obj 5(endobj": api.ErrShort, "1 0 obj 5 <": api.ErrShort, "1 0 obj<<>>)": api.ErrForm,
		"1 0 obj" + nested(65, "") + "endobj": api.ErrDeep, "1 0 obj[" + strings.Repeat("1 ", 1025) + "]endobj": api.ErrLarge, "1 0 obj<<" + strings.Repeat("/A 1", 1025) + ">>endobj": api.ErrLarge,
	} {
		checkWrongNumbered(t, s, e)
	}
	for _, s := range []string{"", "1 0 obj 5 endobj", "1 0 obj<</Length 0>>stream\nendstream endobj"} {
		for _, at := range []int{-1, len(s) + 1, math.MinInt, math.MaxInt} {
			checkIndirect(t, s, at, 0, 0, null, 0, api.ErrArg)
		}
		checkIndirect(t, s, len(s), 0, 0, null, 0, api.ErrShort)
	}
}

func TestStream(t *testing.T) {
	for _, end := range []string{"\n", "\r\n", "\r"} {
		for _, data := range []string{"", "a", "ab cd", "endstream endobj", "\xff\x00(", "%", "\r\n", ")>>", " \n", strings.Repeat("x", 3000)} {
			if end == "\r" && strings.HasPrefix(data, "\n") {
				continue
			}
			d := entry("Length", whole(len(data)))
			for _, behind := range []string{"", "\n", "\r", "\r\n", " ", "%x\n", "\x00\t"} {
				s := "1 0 obj<</Length " + strconv.Itoa(len(data)) + ">>stream" + end + data + behind + "endstream\nendobj"
				checkNumbered(t, s, 1, 0, stream(data, d))
			}
		}
	}
	checkNumbered(t, "7 2 obj <</A 1/Length 2/B(c)>> %x\nstream\nabendstream%\nendobj", 7, 2, stream("ab", entry("A", whole(1)), entry("Length", whole(2)), entry("B", text("c"))))
	// The end of the line is as long as it may be; what is behind it is a byte as others.
	checkNumbered(t, "1 0 obj<</Length 1>>stream\r\n\nendstream endobj", 1, 0, stream("\n", entry("Length", whole(1))))
	checkNumbered(t, "1 0 obj<</Length 1>>stream\n\rendstream endobj", 1, 0, stream("\r", entry("Length", whole(1))))
	checkNumbered(t, "1 0 obj<</Length 1>>stream\r\rendstream endobj", 1, 0, stream("\r", entry("Length", whole(1))))
	checkNumbered(t, "1 0 obj<</Length 0>>stream\r\nendstream endobj", 1, 0, stream("", entry("Length", whole(0))))
	checkWrongNumbered(t, "1 0 obj<</Length 1>>stream\r\nendstream endobj", api.ErrForm)
}

func TestStreamLength(t *testing.T) {
	with := func(entries string) string { return "1 0 obj<<" + entries + ">>stream\nabc\nendstream endobj" }
	for s, want := range map[string]api.Obj{
		"/Length 3": stream("abc", entry("Length", whole(3))), "/Length +3": stream("abc", entry("Length", whole(3))), "/Length 03": stream("abc", entry("Length", whole(3))), "/Length 4": stream("abc\n", entry("Length", whole(4))),
		"/#4cength 3": stream("abc", entry("Length", whole(3))), "/Length 9/Length 3": stream("abc", entry("Length", whole(3))), "/Length null/Length 3": stream("abc", entry("Length", whole(3))), "/Length 3/A null": stream("abc", entry("Length", whole(3))),
		// Whole is a number without thousandths, however it was written.
		"/Length 3.0": stream("abc", entry("Length", pointed(3000))), "/Length 3.0004": stream("abc", entry("Length", pointed(3000))),
	} {
		checkNumbered(t, with(s), 1, 0, want)
	}
	for entries, e := range map[string]api.Errno{
		// Others than just the bytes.
		"/Length 2": api.ErrForm, "/Length 0": api.ErrForm, "/Length 5": api.ErrForm, "/Length 14": api.ErrForm, "/Length 21": api.ErrShort, "/Length 22": api.ErrShort, "/Length 2147483": api.ErrShort, "/Length 13": api.ErrForm, "/Length 19": api.ErrForm, "/Length 20": api.ErrShort,
		// Numbers that tell none.
		"/Length -1": api.ErrForm, "/Length -3": api.ErrForm, "/Length 3.5": api.ErrForm, "/Length 0.001": api.ErrForm, "/Length -0.5": api.ErrForm, "/Length 9999.5": api.ErrForm, "/Length -3.0": api.ErrForm,
		// No Nums.
		"/Length(3)": api.ErrForm, "/Length/3": api.ErrForm, "/Length[3]": api.ErrForm, "/Length 3 0 R": api.ErrForm, "/Length true": api.ErrForm, "/Length<<>>": api.ErrForm, "/Length<</Length 3>>": api.ErrForm,
		// Not there.
		"": api.ErrForm, "/Length null": api.ErrForm, "/Length 3/Length null": api.ErrForm, "/length 3": api.ErrForm, "/L 3": api.ErrForm, "/A<</Length 3>>": api.ErrForm, "/A/Length/B 3": api.ErrForm,
		"/Length 99999999": api.ErrRange,
	} {
		checkWrongNumbered(t, with(entries), e)
	}
	// What is no Num tells none, also where its other fields would tell just the bytes.
	checkWrongNumbered(t, with("/Length 1 3 R"), api.ErrForm)
	for _, no := range []string{"(a)", "/A", "[0]", " 1 0 R", " false", "<<>>", " null"} {
		checkWrongNumbered(t, "1 0 obj<</Length"+no+">>stream\nendstream endobj", api.ErrForm)
	}
}

func TestStreamWrong(t *testing.T) {
	for s, e := range map[string]api.Errno{
		// None of LF, CR and LF, CR right behind the Word.
		"stream": api.ErrForm, "stream ": api.ErrForm, "stream \nabc\nendstream endobj": api.ErrForm, "stream\tabc\nendstream endobj": api.ErrForm, "stream\x00\nabc endstream endobj": api.ErrForm, "stream\fabc endstream endobj": api.ErrForm, "stream%\nabc\nendstream endobj": api.ErrForm, "stream(abc)endstream endobj": api.ErrForm, "stream/\nabc": api.ErrForm, "stream[\nabc": api.ErrForm,
		"streamabc\nendstream endobj": api.ErrForm, "Stream\nabc\nendstream endobj": api.ErrForm, "/stream\nabc\nendstream endobj": api.ErrForm,
		// Fewer bytes.
		"stream\n": api.ErrShort, "stream\r": api.ErrShort, "stream\r\n": api.ErrShort, "stream\nab": api.ErrShort, "stream\r\nab": api.ErrShort, "stream\rab": api.ErrShort,
		// The end behind them.
		"stream\nabc": api.ErrShort, "stream\nabc ": api.ErrShort, "stream\nabc\nendstream": api.ErrShort, "stream\nabc\nendstream\n%endobj": api.ErrShort,
		// Something else behind them.
		"stream\nabc\nendobj": api.ErrForm, "stream\nabc\nstream endobj": api.ErrForm, "stream\nabcd\nendstream endobj": api.ErrForm, "stream\nabc\nendstreamendobj": api.ErrForm, "stream\nabc\nendstream endstream": api.ErrForm, "stream\nabc\nendstream 5": api.ErrForm, "stream\nabc\nendstream obj": api.ErrForm, "stream\nabc/endstream endobj": api.ErrForm, "stream\nabc]": api.ErrForm, "stream\nabc\nEndstream endobj": api.ErrForm, "stream\nabc\nendstream endobj1": api.ErrForm,
		// lex's errors.
		"stream\nabc)": api.ErrForm, "stream\nabc(": api.ErrShort, "stream\nabc 99999999": api.ErrRange, "stream\nabc\nendstream)": api.ErrForm, "stream\nabc\nendstream(": api.ErrShort, "stream\nabc\nendstream 99999999": api.ErrRange,
	} {
		checkWrongNumbered(t, "1 0 obj<</Length 3>>"+s, e)
	}
	// Of each two errors the one that comes first.
	checkWrongNumbered(t, "1 0 obj<</Length 99>>stream", api.ErrForm)
	checkWrongNumbered(t, "1 0 obj<</Length 99>>stream abc", api.ErrForm)
	checkWrongNumbered(t, "1 0 obj<</Length -1>>stream\n", api.ErrForm)
	checkWrongNumbered(t, "1 0 obj<</Length x>>stream", api.ErrForm)
	checkWrongNumbered(t, "1 0 obj<</Length 0>>stream\n", api.ErrShort)
}
