package display

import (
	"strings"
	"testing"

	"inkstand/api"
)

// P12.1: the path.

func TestPoints(t *testing.T) {
	for b, want := range map[string]string{
		"1 2 m":                         "m1,2",
		"1 2 l":                         "l1,2",
		"h":                             "h",
		"1 2 m 3 4 l h":                 "m1,2 l3,4 h",
		"h h 1 2 m 1 2 m h":             "h h m1,2 m1,2 h",
		"-.5 2.25 m":                    "m-0.5,2.25",
		"2147483.648 -2147483.648 m":    "m2147483.648,-2147483.648",
		"1 2 3 4 re":                    "m1,2 l4,2 l4,6 l1,6 h",
		"1 2 -3 -4 re":                  "m1,2 l-2,2 l-2,-2 l1,-2 h",
		"0 0 0 0 re":                    "m0,0 l0,0 l0,0 l0,0 h",
		"1 2 3 4 re 5 6 l 7 8 1 1 re h": "m1,2 l4,2 l4,6 l1,6 h l5,6 m7,8 l8,8 l8,9 l7,9 h h",
		"9 9 m 1 2 3 4 re":              "m9,9 m1,2 l4,2 l4,6 l1,6 h",
		"2147483 0 .648 .001 re":        "m2147483,0 l2147483.648,0 l2147483.648,0.001 l2147483,0.001 h",
		// Not named: they add nothing.
		"1 2 m 1 2 3 4 5 6 c 1 2 3 4 v 1 2 3 4 y": "m1,2",
	} {
		draws(t, b+" S", "S["+want+"]")
	}
}

func TestPointsByMatrix(t *testing.T) {
	const m = "2 3 5 7 11 13 cm "
	const told = " M2,3,5,7,11,13"
	draws(t, m+"1 0 m S", "S[m13,16]"+told)
	draws(t, m+"0 1 l S", "S[l16,20]"+told)
	draws(t, m+"h S", "S[h]"+told)
	draws(t, m+"1 1 m 2 3 l h S", "S[m18,23 l30,40 h]"+told)
	draws(t, m+"1 2 3 4 re S", "S[m23,30 l29,39 l49,67 l43,58 h]"+told)
	// Rounded as geom.Apply does, of each product.
	draws(t, ".5 0 0 .5 0 0 cm .001 .003 m .002 .001 l S", "S[m0.001,0.002 l0.001,0.001] M0.5,0,0,0.5,0,0")
}

func TestPointsTooGreat(t *testing.T) {
	for _, b := range []string{
		"2147483 0 1 0 re", "0 2147483 0 1 re", "-2147483 0 -1 0 re", "0 -2147483 0 -1 re", "2147483.648 0 .001 0 re", "0 -2147483.648 0 -.001 re",
		"1 0 0 1 1 0 cm 2147483 0 m", "1 0 0 1 0 1 cm 0 2147483 m", "1 0 0 1 1 0 cm 2147483 0 l", "2 0 0 1 0 0 cm 1100000 0 l", "0 2 1 0 0 0 cm 1100000 0 l",
		// One corner alone.
		"1 0 0 1 1 0 cm 0 0 2147483 0 re", "1 0 0 1 0 1 cm 0 0 0 2147483 re", "1 0 1 1 0 0 cm 0 0 2147483 1 re", "1 0 -1 1 0 0 cm 0 0 -5 2147483.648 re", "1 1 0 1 0 0 cm 0 0 2147483 1 re",
	} {
		wrong(t, b, api.ErrRange)
		wrong(t, b+" n", api.ErrRange)
	}
	for _, b := range []string{"2147483 0 .648 0 re n", "1 0 0 1 1 0 cm 2147482.648 0 m n", "1 0 1 1 0 0 cm 0 0 2147483 .648 re n", "1 0 0 1 1 0 cm 2147483 0 n", "2 0 0 1 0 0 cm 1073741.824 0 l n"} {
		draws(t, b, "")
	}
}

var painting = map[string]string{"f": "F", "F": "F", "f*": "F", "S": "S", "B": "B", "B*": "B", "s": "S", "b": "B", "b*": "B", "n": "", "W": "X", "W*": "X"}

// closes: does an operator add a point h first?
func closes(op string) bool { return op == "s" || op == "b" || op == "b*" }

func TestPaint(t *testing.T) {
	for op, kind := range painting {
		for b, path := range map[string]string{"1 2 m": "m1,2", "h": "h", "1 2 m 3 4 l h": "m1,2 l3,4 h", "0 0 1 1 re 2 2 l": "m0,0 l1,0 l1,1 l0,1 h l2,2"} {
			p := path
			if closes(op) {
				p += " h"
			}
			want := kind + "[" + p + "]"
			if op == "n" {
				want = ""
			}
			draws(t, b+" "+op, want)
			// What is left of the path.
			clip := op == "W" || op == "W*"
			for next, k := range map[string]string{"f": "F", "S": "S", "W": "X"} {
				if clip {
					draws(t, b+" "+op+" "+next, want+" | "+k+"["+path+"]")
					draws(t, b+" "+op+" 5 6 l "+next, want+" | "+k+"["+path+" l5,6]")
				} else {
					draws(t, b+" "+op+" "+next, want)
					draws(t, b+" "+op+" 5 6 l "+next, strings.TrimPrefix(want+" | "+k+"[l5,6]", " | "))
				}
			}
		}
	}
}

func TestPaintNone(t *testing.T) {
	for op, kind := range painting {
		want := ""
		if closes(op) {
			// First h: then the path isn't empty.
			want = kind + "[h]"
		}
		draws(t, op, want)
		draws(t, "1 2 m n "+op, want)
		draws(t, "1 2 m f "+op, "F[m1,2]"+map[bool]string{true: " | "}[want != ""]+want)
		draws(t, op+" 1 2 m S", want+map[bool]string{true: " | "}[want != ""]+"S[m1,2]")
		draws(t, op+" "+op, want+map[bool]string{true: " | "}[want != ""]+want)
	}
}

// An item keeps the path as it was, whatever follows.
func TestPathsStay(t *testing.T) {
	draws(t, "1 2 m W 3 4 l W* 5 6 l f 7 8 m S", "X[m1,2] | X[m1,2 l3,4] | F[m1,2 l3,4 l5,6] | S[m7,8]")
	draws(t, "1 2 m 3 4 l W f 5 6 m 7 8 l W s 9 9 m f", "X[m1,2 l3,4] | F[m1,2 l3,4] | X[m5,6 l7,8] | S[m5,6 l7,8 h] | F[m9,9]")
	draws(t, "1 2 m W W W n 3 4 m f", "X[m1,2] | X[m1,2] | X[m1,2] | F[m3,4]")
	b, want := "", []string{}
	path := ""
	for i := range 40 {
		x := number(api.Fix(i) * 1000)
		b += x + " 1 l W "
		path = strings.TrimPrefix(path+" l"+x+",1", " ")
		want = append(want, "X["+path+"]")
	}
	draws(t, b, strings.Join(want, " | "))
	draws(t, b+"n "+b, strings.Join(append(want, want...), " | "))
}

// The matrix and the colours of an item are those that hold when it is painted, its points those that held as they came.
func TestPaintedAs(t *testing.T) {
	draws(t, "1 0 0 1 1 0 cm 1 1 m 1 g 5 w 1 0 0 1 0 1 cm 1 1 l B 0 g 1 w 3 3 m B", "B[m2,1 l2,2] M1,0,0,1,1,1 C1,1,1 W5 | B[m4,4] M1,0,0,1,1,1")
	draws(t, "1 1 m q 1 g W Q 2 2 l f", "X[m1,1] C1,1,1 | F[m1,1 l2,2]")
}

func TestManyItems(t *testing.T) {
	most := func(b string, n int) string { return strings.Repeat(b, n) }
	ask := func(f string, b string, n int, e api.Errno) {
		t.Helper()
		l, err := Run(file(form("", f)), obj(rightRes), []byte(b))
		if len(l) != n || err != e {
			t.Errorf("%.60q, %.60q: %d %v, not %d %v", f, b, len(l), err, n, e)
		}
	}
	ask("", most("()Tj ", 65536), 65536, api.OK)
	ask("", "0 0 m "+most("W ", 65535), 65535, api.OK)
	// A Form has one more, its Clip.
	ask("", most("()Tj ", 65535)+"/X Do", 65536, api.OK)
	ask("", most("/X Do ", 65536), 65536, api.OK)
	ask("0 0 m f", most("/X Do ", 32768), 65536, api.OK)
	ask("0 0 m f", most("/X Do ", 32769), 0, api.ErrLarge)
	ask("0 0 m f", most("()Tj ", 65534)+"/X Do", 65536, api.OK)
	// One too many, of each kind.
	ask("0 0 m f", most("()Tj ", 65535)+"/X Do", 0, api.ErrLarge)
	ask("()Tj", most("()Tj ", 65535)+"/X Do", 0, api.ErrLarge)
	ask("h W", most("()Tj ", 65535)+"/X Do", 0, api.ErrLarge)
	ask("n f W (a", most("()Tj ", 65535)+"/X Do", 0, api.ErrShort)
	ask("n f W", most("()Tj ", 65535)+"/X Do", 65536, api.OK)
	ask("h h h "+most("W ", 65000), most("/X Do ", 2), 0, api.ErrLarge)
	ask("h h h "+most("W ", 32767), most("/X Do ", 2), 65536, api.OK)
	ask("0 0 m "+most("W ", 65535), "/X Do", 65536, api.OK)
	ask("()Tj", "/X Do "+most("()Tj ", 65534), 65536, api.OK)
	ask("()Tj", "/X Do "+most("()Tj ", 65535), 0, api.ErrLarge)
	ask("()Tj", "/X Do 0 0 m "+most("W ", 65534), 65536, api.OK)
	ask("()Tj", "/X Do "+most("s ", 65535), 0, api.ErrLarge)
	// The one too many ends all ahead of what follows; what is wrong ahead of it ends all ahead.
	ask("()Tj", "/X Do "+most("()Tj ", 65534)+"Q", 0, api.ErrForm)
	ask("()Tj", most("/X Do ", 32769)+"Q", 0, api.ErrLarge)
	ask("()Tj", most("/X Do ", 32768)+"Q ()Tj", 0, api.ErrForm)
	ask("()Tj", most("/X Do ", 32768)+"(a", 0, api.ErrShort)
	// The matrix of a text goes ahead.
	ask("()Tj", most("/X Do ", 32768)+"2000000 0 0 1 0 0 cm 2000000 0 0 1 0 0 Tm ()Tj", 0, api.ErrRange)
	if l, e := Form(file(form("/Resources<</XObject<</X 2 0 R>>>>", most("/X Do ", 32768)), form("", "()Tj")), ref(1), unit); l != nil || e != api.ErrLarge {
		t.Error(len(l), e)
	}
	if l, e := Form(file(form("", "h "+most("W ", 65535))), ref(1), unit); len(l) != 65536 || e != api.OK {
		t.Error(len(l), e)
	}
}
