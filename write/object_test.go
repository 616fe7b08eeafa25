package write

import (
	"fmt"
	"strings"
	"testing"

	"inkstand/api"
	"inkstand/cos"
)

// P5.2

func TestObjectPlain(t *testing.T) {
	for _, x := range []struct {
		o    api.Obj
		want string
	}{
		{null, "null"}, {truth(1), "true"}, {truth(0), "false"},
		{name("A"), "/A"}, {name(""), "/"}, {name("A B"), "/A#20B"}, {name("#/()<>[]{}%"), "/#23#2F#28#29#3C#3E#5B#5D#7B#7D#25"}, {name("a\x00\n~\x7f\xff"), "/a#00#0A~#7F#FF"},
		{text(""), "()"}, {text("a"), "(a)"}, {text("a(b)"), `(a\(b\))`}, {text("\\\r\n\t\b\f"), `(\\\r\n\t\b\f)`}, {text("\x00 ~\x7f\xff#"), `(\000 ~\177\377#)`},
		{ref(1, 0), "1 0 R"}, {ref(0, 0), "0 0 R"}, {ref(12, 34), "12 34 R"}, {ref(2147483, 2147483), "2147483 2147483 R"},
	} {
		checkTold(t, x.o, x.want, api.OK)
		checkTold(t, filled(x.o), x.want, api.OK)
	}
}

func TestObjectNum(t *testing.T) {
	for f, s := range map[api.Fix]string{
		0: "0", 1000: "1", -1000: "-1", 10000: "10", 100000: "100", -20000: "-20", 2147483000: "2147483", -2147483000: "-2147483",
	} {
		checkTold(t, api.Obj{Kind: api.Num, N: 1, F: f}, s, api.OK)
		checkTold(t, filled(api.Obj{Kind: api.Num, N: 1, F: f}), s, api.OK)
		checkTold(t, pointed(f), s+".0", api.OK)
	}
	for f, s := range map[api.Fix]string{
		1: "0.001", -1: "-0.001", 10: "0.01", 100: "0.1", -500: "-0.5", 999: "0.999", 1001: "1.001", 1500: "1.5", -1050: "-1.05", 10010: "10.01", 2147483001: "2147483.001", 1 << 31: "2147483.648", -1 << 31: "-2147483.648",
	} {
		checkTold(t, pointed(f), s, api.OK)
		checkTold(t, api.Obj{Kind: api.Num, N: 1, F: f}, "", api.ErrArg)
	}
}

func TestObjectNested(t *testing.T) {
	for _, x := range []struct {
		o    api.Obj
		want string
	}{
		{arr(whole(1), name("A")), "[1 /A]"},
		{arr(), "[]"}, {api.Obj{Kind: api.Arr, L: []api.Obj{}}, "[]"}, {arr(null), "[null]"}, {arr(null, null), "[null null]"}, {arr(arr()), "[[]]"}, {arr(arr(), arr()), "[[] []]"},
		{arr(whole(1), ref(2, 0), pointed(3000), text("a"), text(""), name(""), truth(0)), "[1 2 0 R 3.0 (a) () / false]"},
		{arr(arr(name("A")), whole(-1), dict(), pointed(-500)), "[[/A] -1 <<>> -0.5]"},
		{dict(), "<<>>"}, {api.Obj{Kind: api.Dict, D: []api.Entry{}}, "<<>>"}, {dict(entry("A", whole(1))), "<</A 1>>"}, {dict(entry("", name(""))), "<</ />>"}, {dict(entry("B", name("C")), entry("A", text("x")), entry("a b", arr())), "<</B /C /A (x) /a#20b []>>"},
		{dict(entry("A", dict(entry("A", dict()))), entry("B", arr(null, dict(entry("A", ref(1, 2)))))), "<</A <</A <<>>>> /B [null <</A 1 2 R>>]>>"},
		{dict(entry("Length", whole(7)), entry("\xff", pointed(0))), "<</Length 7 /#FF 0.0>>"},
		{arr(filled(null), filled(name("A")), filled(arr(whole(1)))), "[null /A [1]]"},
	} {
		checkTold(t, x.o, x.want, api.OK)
	}
	checkTold(t, filled(arr(whole(1))), "[1]", api.OK)
	checkTold(t, filled(dict(entry("A", whole(1)))), "<</A 1>>", api.OK)
}

func TestObjectManyAndDeep(t *testing.T) {
	checkTold(t, arr(make([]api.Obj, 1024)...), "["+strings.Repeat("null ", 1023)+"null]", api.OK)
	want := "<<"
	for i, e := range entries(1024) {
		want += strings.Repeat(" ", min(i, 1)) + fmt.Sprintf("/%s %d", e.Key, i)
	}
	checkTold(t, dict(entries(1024)...), want+">>", api.OK)
	checkTold(t, nested(64, null, api.Arr), strings.Repeat("[", 64)+"null"+strings.Repeat("]", 64), api.OK)
	checkTold(t, nested(64, name("x"), api.Dict), strings.Repeat("<</A ", 64)+"/x"+strings.Repeat(">>", 64), api.OK)
	// Texts are not bounded.
	long := strings.Repeat("x", 1<<21)
	checkTold(t, text(long), "("+long+")", api.OK)
	checkTold(t, arr(name(long), whole(1)), "[/"+long+" 1]", api.OK)
}

func TestObjectWrong(t *testing.T) {
	checkTold(t, stream(""), "", api.ErrArg)
	checkTold(t, stream("s", entry("A", whole(1)), entry("Length", whole(1))), "", api.ErrArg)
	// What is wrong with a Stream goes ahead.
	checkTold(t, stream("s", entry("A", pointed(1<<40))), "", api.ErrRange)
	checkTold(t, stream("s", entries(1025)...), "", api.ErrLarge)
	checkTold(t, stream("s", entry("A", nested(64, null, api.Arr))), "", api.ErrDeep)
	checkTold(t, stream("s", entry("A", null)), "", api.ErrArg)
	checkTold(t, api.Obj{Kind: 9}, "", api.ErrArg)
	checkTold(t, arr(whole(1), pointed(1<<40)), "", api.ErrRange)
	checkTold(t, dict(entry("A", stream("s"))), "", api.ErrArg)
}

// The text is new each time: who asks again gets the same.
func TestObjectAgain(t *testing.T) {
	o := arr(name("A"), dict(entry("B", text("c"))), whole(1))
	first, _ := Object(o)
	Indirect(1, 0, cos.Set(stream("s"), "A", o))
	checkTold(t, o, first, api.OK)
}
