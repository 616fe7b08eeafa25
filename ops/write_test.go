package ops

import (
	"strings"
	"testing"

	"inkstand/api"
)

// P11.2

func TestLines(t *testing.T) {
	checkWrite(t, nil, "", api.OK)
	checkWrite(t, []Op{}, "", api.OK)
	checkWrite(t, named("q"), "q\n", api.OK)
	checkWrite(t, named("q Q f* ' BIT"), "q\nQ\nf*\n'\nBIT\n", api.OK)
	checkWrite(t, []Op{op("w", pointed(500))}, "0.5 w\n", api.OK)
	checkWrite(t, []Op{{Name: "n", Args: []api.Obj{}}}, "n\n", api.OK)
	checkWrite(t, []Op{op("rg", whole(1), whole(0), pointed(1000)), op("Tf", name("F G"), whole(12)), op("Tj", text("a(b"))}, "1 0 1.0 rg\n/F#20G 12 Tf\n(a\\(b) Tj\n", api.OK)
	checkWrite(t, []Op{op("TJ", arr(text("a"), whole(-1), text(""))), op("DP", name(""), dict(entry("A", truth(1)), entry("B", arr(null)))), op("x", null, truth(0), null)}, "[(a) -1 ()] TJ\n/ <</A true /B [null]>> DP\nnull false null x\n", api.OK)
}

func TestManyToWrite(t *testing.T) {
	l := slicesOf(op("q"), 65537)
	checkWrite(t, l[:65536], strings.Repeat("q\n", 65536), api.OK)
	checkWrite(t, l, "", api.ErrLarge)
	// Ahead of what is wrong in one of them.
	l[0] = op("", ref(1, 0))
	checkWrite(t, l, "", api.ErrLarge)
	checkWrite(t, l[:65536], "", api.ErrArg)
	l[0], l[65535] = op("q"), op("")
	checkWrite(t, l[:65536], "", api.ErrArg)
	checkWrite(t, l[:65535], strings.Repeat("q\n", 65535), api.OK)
}

func TestNames(t *testing.T) {
	for _, s := range []string{"", "true", "false", "null", "BI", "+", "-", ".", "+a", "-a", ".a", " ", "a b", " a", "a ", "\n", "a\n", "%", "a%", "%a", "q%\n", "/", "/A", "a/", "()", "(a)", "<41>", "<<", "[", "]", "[]", "a]", "{", "}", "a{", "1", "12", "1a", "1.5", "99999999", "1-", "q Q", "q\x00", "\x00", "true ", " BI", "#20 "} {
		checkWrite(t, []Op{op(s)}, "", api.ErrArg)
		checkWrite(t, []Op{op("q"), op(s, whole(1))}, "", api.ErrArg)
	}
	for _, s := range []string{"q", "R", "obj", "stream", "True", "TRUE", "trues", "atrue", "nulll", "NULL", "Bi", "BIB", "EI", "a1", "a+", "a-.", "*", "'", "\"", "#", "#20", "\\", "!", "~", "\x01", "\x0b", "\x1f", "\x7f", "\x80", "\xff", "é", strings.Repeat("x", 70000)} {
		checkWrite(t, []Op{op(s)}, s+"\n", api.OK)
		checkWrite(t, []Op{op("q"), op(s, whole(1))}, "q\n1 "+s+"\n", api.OK)
	}
	for i := range 256 {
		b := string([]byte{byte(i)})
		for _, s := range []string{b, b + "x", "x" + b, "x" + b + "x"} {
			want, e := wantWrite([]Op{op(s)})
			checkWrite(t, []Op{op(s)}, want, e)
		}
	}
}

func TestManyArgs(t *testing.T) {
	checkWrite(t, []Op{op("x", slicesOf(op("x", null), 1)[0].Args...)}, "null x\n", api.OK)
	l := objects(66)
	s, e := Write([]Op{op("x", l[:64]...)})
	if words := strings.Split(s, " "); len(words) != 65 || words[0] != "0" || words[63] != "63" || words[64] != "x\n" || e != api.OK {
		t.Errorf("%q %v", s, e)
	}
	checkWrite(t, []Op{op("x", l[:65]...)}, "", api.ErrLarge)
	checkWrite(t, []Op{op("q"), op("x", l...)}, "", api.ErrLarge)
	// A Name that may not be goes ahead of too many, these ahead of what is wrong in one of them.
	checkWrite(t, []Op{op("BI", l[:65]...)}, "", api.ErrArg)
	l[0], l[1] = ref(1, 0), truth(2)
	checkWrite(t, []Op{op("x", l[:65]...)}, "", api.ErrLarge)
	checkWrite(t, []Op{op("x", l[:64]...)}, "", api.ErrArg)
}

func TestRefs(t *testing.T) {
	r := ref(1, 0)
	for _, o := range []api.Obj{r, {Kind: api.Ref, N: -1, F: 1 << 40}, arr(r), arr(null, whole(1), r), arr(arr(), arr(arr(), r)), dict(entry("A", r)), dict(entry("A", whole(1)), entry("B", dict(entry("C", arr(r))))), stream("s", entry("A", r)), nested(63, r), nested(64, r), nested(65, r), nested(300, r), nested(70000/2, r)} {
		checkWrite(t, []Op{op("x", o)}, "", api.ErrArg)
		checkWrite(t, []Op{op("q"), op("x", whole(1), o)}, "", api.ErrArg)
	}
	// A Ref goes ahead of what is wrong of the same object, wherever either stands, but not of what is wrong of one ahead.
	large := pointed(1 << 40)
	for _, o := range []api.Obj{arr(large, r), arr(r, large), dict(entry("A", large), entry("B", r)), arr(append(objects(1025), r)...), nested(70, arr(r)), arr(nested(70, null), r), dict(entry("A", r), entry("A", large)), arr(large, stream("s", entry("A", r)))} {
		checkWrite(t, []Op{op("x", o)}, "", api.ErrArg)
		checkWrite(t, []Op{op("x", large, o)}, "", api.ErrRange)
		checkWrite(t, []Op{op("x", arr(large)), op("y", o)}, "", api.ErrRange)
	}
	// What a kind does not have is not looked at.
	for _, kind := range []int{api.Null, api.Bool, api.Num, api.Name, api.Str, api.Arr, api.Dict} {
		o := api.Obj{Kind: kind}
		if kind != api.Arr {
			o.L = []api.Obj{r}
		}
		if kind != api.Dict {
			o.D = []api.Entry{entry("A", r)}
		}
		want := map[int]string{api.Null: "null", api.Bool: "false", api.Num: "0.0", api.Name: "/", api.Str: "()", api.Arr: "[]", api.Dict: "<<>>"}[kind]
		checkWrite(t, []Op{op("x", o)}, want+" x\n", api.OK)
	}
}

func TestObjectErrors(t *testing.T) {
	for e, l := range map[api.Errno][]api.Obj{
		api.ErrArg:   {{Kind: 9}, {Kind: -1}, truth(2), {Kind: api.Num, N: 2}, {Kind: api.Num, N: 1, F: 1}, stream("s"), stream("", entry("A", whole(1))), dict(entry("A", null)), dict(entry("A", whole(1)), entry("A", whole(1))), arr(stream("s"))},
		api.ErrRange: {pointed(1<<31 + 1), pointed(-1<<31 - 1), arr(pointed(1 << 40)), {Kind: api.Num, N: 1, F: 1 << 40 / 1000 * 1000}},
		api.ErrLarge: {arr(objects(1025)...), dict(entry("A", arr(objects(1025)...)))},
		api.ErrDeep:  {arrs(65), nested(65, null), dict(entry("A", arrs(64))), nested(300, null)},
	} {
		for _, o := range l {
			checkWrite(t, []Op{op("x", o)}, "", e)
			checkWrite(t, []Op{op("q"), op("x", whole(1), name("A"), o), op("")}, "", e)
			// The Name, and how many there are, go ahead of it.
			checkWrite(t, []Op{op("1", o)}, "", api.ErrArg)
			checkWrite(t, []Op{op("x", append(objects(64), o)...)}, "", api.ErrLarge)
			// The first one of two.
			checkWrite(t, []Op{op("x", o, pointed(1<<40)), op("")}, "", e)
			checkWrite(t, []Op{op("x", pointed(1<<40), o)}, "", api.ErrRange)
			checkWrite(t, []Op{op("x", o), op("y", objects(65)...)}, "", e)
		}
	}
	checkWrite(t, []Op{op("x", arrs(64), arr(objects(1024)...))}, strings.Repeat("[", 64)+strings.Repeat("]", 64)+" "+wantMany(1024)+" x\n", api.OK)
}

// wantMany is an Arr of so many whole numbers, as it is written.
func wantMany(n int) string {
	s, _ := wantWrite([]Op{op("x", arr(objects(n)...))})
	return strings.TrimSuffix(s, " x\n")
}

// P1: an object that holds itself is nested deeper than any other one.
func TestObjectsInRings(t *testing.T) {
	l := make([]api.Obj, 3)
	l[0], l[1] = whole(1), arr(l...)
	d := make([]api.Entry, 1)
	d[0] = entry("A", dict(d...))
	both := make([]api.Obj, 2)
	both[0] = dict(entry("A", arr(both...)))
	both[1] = both[0]
	for _, o := range []api.Obj{arr(l...), dict(d...), arr(both...), arr(null, dict(entry("A", arr(l...))))} {
		if s, e := Write([]Op{op("x", o)}); s != "" || e != api.ErrDeep {
			t.Errorf("%q %v", s, e)
		}
	}
	if s, e := Write([]Op{op("x", arr(truth(2), arr(l...)))}); s != "" || e != api.ErrArg {
		t.Errorf("%q %v", s, e)
	}
	if s, e := Write([]Op{op("x", ref(1, 0), arr(l...))}); s != "" || e != api.ErrArg {
		t.Errorf("%q %v", s, e)
	}
}
