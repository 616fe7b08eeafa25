package display

import (
	"strings"
	"testing"

	"inkstand/api"
)

// P12.1: the state.

func TestExample(t *testing.T) {
	l, e := Run(file(), obj("<<>>"), []byte("1 0 0 rg 0 0 10 10 re f"))
	if e != api.OK || len(l) != 1 || l[0].Kind != Fill || len(l[0].Path) != 5 || l[0].C != [3]api.Fix{1000, 0, 0} {
		t.Error(l, e)
	}
	checkItems(t, "Run", file(), none, []Item{{Kind: 1, M: unit, W: 1000, C: [3]api.Fix{1000, 0, 0}, Path: []Point{{"m", 0, 0}, {"l", 10000, 0}, {"l", 10000, 10000}, {"l", 0, 10000}, {"h", 0, 0}}}}, api.OK, func() ([]Item, api.Errno) {
		return Run(file(), none, []byte("1 0 0 rg 0 0 10 10 re f"))
	})
	draws(t, "1 0 0 rg 0 0 10 10 re f", "F[m0,0 l10,0 l10,10 l0,10 h] C1,0,0")
}

func TestNoBytes(t *testing.T) {
	for _, b := range []string{"", " ", "\x00\t\n\f\r", "% q Q 0 0 m f", "%\n"} {
		draws(t, b, "")
	}
	if l, e := Run(file(), none, nil); len(l) > 0 || e != api.OK {
		t.Error(l, e)
	}
}

// What each operator lays down, with as many objects as it needs, ahead of what shows what it did.
const ahead = "/F 5 Tf 3 TL 1 2 m "

const behind = " 7 8 l S (a) ' (b) Tj"

func TestNotNamed(t *testing.T) {
	want := "S[m1,2 l7,8] | T(a) M1,0,0,1,0,-3 /F 5 | T(b) M1,0,0,1,0,-3 /F 5"
	draws(t, ahead+behind, want)
	for _, name := range strings.Fields("c v y d0 d1 gs ET \" Tc Tw Tz Tr Ts TF TJ* Tx Td* BMC BDC EMC MP DP cs CS sc SC scn SCN k K i j J d M ri sh BX EX ID EI R x True qq QQ q* Q* F* N n* S* s* re* H h* WW w* bT Bt et tj do DO cM CM RE Rg rG # \xff \\") {
		draws(t, ahead+name+behind, want)
		draws(t, ahead+"1 2 3 4 5 6 "+name+behind, want)
		draws(t, ahead+"/A (b) [(c)] <<>> null true 1 "+name+behind, want)
	}
}

// right is objects that an operator may have, and the resources in which its name is found.
var right = map[byte]string{'n': "2", 'N': "/X", 's': "(s)", 'a': "[(t)]"}

const rightRes = "<</XObject<</X 1 0 R>>>>"

var others = []string{"null", "true", "false", "2", "-.5", "/X", "(s)", "<41>", "[(t)]", "[]", "<<>>", "<</X 2>>"}

// letterOf is the letter of the kind of an object's text.
func letterOf(s string) byte { return "--nNsa---"[obj(s).Kind] }

func TestObjectsOfEach(t *testing.T) {
	f := file(form("", "9 9 m f (x) Tj"))
	for name, k := range kinds {
		var l []string
		for i := range k {
			l = append(l, right[k[i]])
		}
		text := func(l []string) string { return "q " + ahead + strings.Join(l, " ") + " " + name + behind }
		// Just as many: what is drawn is what others tell of each operator below.
		if e := checkRun(t, f, obj(rightRes), text(l)); e != api.OK {
			t.Error(name, e)
		}
		want, _ := Run(f, obj(rightRes), []byte(text(l)))
		// More are let be, of any kind.
		for _, more := range append(others, "1 2 3 4 5 6 7", "/X /Y", "(a)(b)") {
			b := text(append(l[:len(l):len(l)], more))
			checkRun(t, f, obj(rightRes), b)
			if got, e := Run(f, obj(rightRes), []byte(b)); e != api.OK || !sameItems(got, want) {
				t.Errorf("%q: %s %v", b, told(got), e)
			}
		}
		// Fewer are not.
		for n := range k {
			checkDraws(t, f, rightRes, text(l[:n]), "", api.ErrForm)
			checkDraws(t, f, rightRes, text(l[n+1:]), "", api.ErrForm)
		}
		for n := range k {
			for _, other := range others {
				b := text(append(append(l[:n:n], other), l[n+1:]...))
				if letterOf(other) == k[n] && other != "<41>" {
					checkRun(t, f, obj(rightRes), b)
				} else if letterOf(other) != k[n] {
					checkDraws(t, f, rightRes, b, "", api.ErrForm)
					// Nor are they, if what would be right follows.
					checkDraws(t, f, rightRes, text(append(append(l[:n:n], other), l[n:]...)), "", api.ErrForm)
				}
			}
		}
	}
}

func TestFirstState(t *testing.T) {
	draws(t, "0 0 m S", "S[m0,0]")
	draws(t, "(a) Tj", "T(a)")
	draws(t, "(a) '", "T(a)")
	l, _ := Run(file(), none, []byte("0 0 m S (a) Tj"))
	want := []Item{{Kind: Stroke, M: unit, Path: []Point{{Op: "m"}}, W: 1000}, {Kind: Show, M: unit, S: "a"}}
	if !sameItems(l, want) {
		t.Error(l)
	}
}

// Which items bear what of the state.
func TestBorne(t *testing.T) {
	const set = ".1 .2 .3 rg .4 .5 .6 RG 7 w /F 8 Tf 9 TL 2 0 0 3 4 5 cm "
	const borne = " M2,0,0,3,4,5 C0.1,0.2,0.3 D0.4,0.5,0.6 W7"
	for op, want := range map[string]string{"f": "F", "F": "F", "f*": "F", "S": "S", "B": "B", "B*": "B", "W": "X", "W*": "X"} {
		draws(t, set+"1 2 m "+op, want+"[m6,11]"+borne)
	}
	for op, want := range map[string]string{"s": "S", "b": "B", "b*": "B"} {
		draws(t, set+"1 2 m "+op, want+"[m6,11 h]"+borne)
	}
	for _, op := range []string{"(a) Tj", "[(a)] TJ"} {
		draws(t, set+op, "T(a) M2,0,0,3,4,5 C0.1,0.2,0.3 /F 8")
	}
	draws(t, set+"(a) '", "T(a) M2,0,0,3,4,-22 C0.1,0.2,0.3 /F 8")
	l, e := Run(file(), none, []byte(set+"0 0 m f (a) Tj"))
	if e != api.OK || !sameItems(l, []Item{{1, api.Matrix{2000, 0, 0, 3000, 4000, 5000}, []Point{{"m", 4000, 5000}}, [3]api.Fix{100, 200, 300}, [3]api.Fix{400, 500, 600}, 7000, "", 0, ""}, {5, api.Matrix{2000, 0, 0, 3000, 4000, 5000}, nil, [3]api.Fix{100, 200, 300}, [3]api.Fix{}, 0, "F", 8000, "a"}}) {
		t.Error(l, e)
	}
}

func TestColours(t *testing.T) {
	for b, want := range map[string]string{
		".5 g":                      " C0.5,0.5,0.5",
		".5 G":                      " D0.5,0.5,0.5",
		"1 .25 0 rg":                " C1,0.25,0",
		"0 .25 1 RG":                " D0,0.25,1",
		".5 g .25 G":                " C0.5,0.5,0.5 D0.25,0.25,0.25",
		"1 2 3 rg 4 5 6 RG":         " C1,2,3 D4,5,6",
		"4 5 6 RG 1 2 3 rg":         " C1,2,3 D4,5,6",
		"1 2 3 rg 9 g":              " C9,9,9",
		"9 g 1 2 3 rg":              " C1,2,3",
		"1 2 3 RG 0 G":              "",
		"1 2 3 rg 4 5 6 RG 0 g 0 G": "",
		// Numbers of any size.
		"-1 2147483.648 -2147483.648 rg": " C-1,2147483.648,-2147483.648",
		"-3 g -.001 G":                   " C-3,-3,-3 D-0.001,-0.001,-0.001",
	} {
		draws(t, b+" 0 0 m B", "B[m0,0]"+want)
		// A path takes the colours that hold when it is painted.
		draws(t, "0 0 m "+b+" B", "B[m0,0]"+want)
		draws(t, "0 0 m W "+b+" f", "X[m0,0] | F[m0,0]"+want)
		fill, _, _ := strings.Cut(want, " D")
		draws(t, b+" (a) Tj", "T(a)"+fill)
	}
}

func TestWidth(t *testing.T) {
	for w, want := range map[string]string{"0": " W0", "1": "", "2.5": " W2.5", "-3": " W-3", "2147483.648": " W2147483.648"} {
		draws(t, w+" w 0 0 m S", "S[m0,0]"+want)
		draws(t, "7 w "+w+" w 0 0 m f", "F[m0,0]"+want)
		draws(t, "0 0 m "+w+" w W", "X[m0,0]"+want)
	}
}

func TestMatrix(t *testing.T) {
	for b, want := range map[string]string{
		"1 0 0 1 0 0 cm": "",
		"2 0 0 3 4 5 cm": " M2,0,0,3,4,5",
		// What is told last is done first: moved and then made greater, or the other way.
		"2 0 0 2 0 0 cm 1 0 0 1 5 7 cm":                    " M2,0,0,2,10,14",
		"1 0 0 1 5 7 cm 2 0 0 2 0 0 cm":                    " M2,0,0,2,5,7",
		"1 2 3 4 5 6 cm 7 8 9 10 11 12 cm":                 " M31,46,39,58,52,76",
		"0 1 -1 0 0 0 cm 0 1 -1 0 0 0 cm":                  " M-1,0,0,-1,0,0",
		"0 0 0 0 0 0 cm 1 2 3 4 5 6 cm":                    " M0,0,0,0,0,0",
		"0 0 0 0 1 2 cm":                                   " M0,0,0,0,1,2",
		".001 0 0 .001 0 0 cm .5 0 0 .4 0 0 cm":            " M0.001,0,0,0,0,0",
		"1 0 0 1 1 1 cm 1 0 0 1 1 1 cm 1 0 0 1 -2 -2.5 cm": " M1,0,0,1,0,-0.5",
	} {
		draws(t, b+" (a) Tj", "T(a)"+want)
		draws(t, "0 0 m "+b+" f", "F[m0,0]"+want)
	}
	// Points are brought by the matrix that holds as they come.
	draws(t, "1 2 m 2 0 0 3 4 5 cm 1 2 l h S", "S[m1,2 l6,11 h] M2,0,0,3,4,5")
	draws(t, "1 2 3 4 5 6 cm 7 8 m f", "F[m36,52] M1,2,3,4,5,6")
	// A product that may not be.
	wrong(t, "1000000 0 0 1 0 0 cm 3 0 0 1 0 0 cm", api.ErrRange)
	wrong(t, "1 0 0 1 2000000 0 cm 1 0 0 1 2000000 0 cm", api.ErrRange)
	wrong(t, "1 0 0 1 0 -2000000 cm 1 0 0 1 0 -2000000 cm", api.ErrRange)
	draws(t, "1000000 0 0 1 0 0 cm 2 0 0 1 0 0 cm (a) Tj", "T(a) M2000000,0,0,1,0,0")
}

func TestKeep(t *testing.T) {
	const set = ".1 .2 .3 rg .4 .5 .6 RG 7 w /F 8 Tf 9 TL 2 0 0 3 4 5 cm "
	const other = "1 g 1 G 1 w /G 1 Tf 1 TL 1 0 0 1 1 1 cm "
	const show = "0 0 m B BT (a) Tj T* (b) Tj "
	want := "B[m4,5] M2,0,0,3,4,5 C0.1,0.2,0.3 D0.4,0.5,0.6 W7 | T(a) M2,0,0,3,4,5 C0.1,0.2,0.3 /F 8 | T(b) M2,0,0,3,4,-22 C0.1,0.2,0.3 /F 8"
	draws(t, set+show, want)
	// All of the state is kept, and taken back.
	draws(t, set+"q "+other+"Q "+show, want)
	draws(t, set+"q "+show, want)
	draws(t, set+"q Q "+show, want)
	draws(t, set+"q "+other+"q "+other+"Q Q "+show, want)
	draws(t, set+"q q "+other+"Q "+other+"Q q "+show+"Q", want)
	draws(t, "q "+set+"q "+other+"Q "+show+"Q", want)
	for _, op := range []string{"1 g", "1 G", "1 1 1 rg", "1 1 1 RG", "1 w", "/G 8 Tf", "/F 1 Tf", "1 TL", "0 -1 TD", "1 0 0 1 1 1 cm"} {
		draws(t, set+"q "+op+" Q "+show, want)
		checkRun(t, file(), none, set+"q "+op+" q "+other+" Q "+show+"Q "+show)
	}
	// What was first is taken back too.
	draws(t, "q "+set+"Q "+show, "B[m0,0] | T(a) | T(b)")
	// The last one that was kept is the first one that is taken back.
	draws(t, "1 w q 2 w q 3 w q 4 w 0 0 m S Q 0 0 m S Q 0 0 m S Q 0 0 m S", "S[m0,0] W4 | S[m0,0] W3 | S[m0,0] W2 | S[m0,0]")
}

// The path, and the text's matrices, are not kept.
func TestNotKept(t *testing.T) {
	draws(t, "1 2 m q 3 4 l Q 5 6 l S", "S[m1,2 l3,4 l5,6]")
	draws(t, "q 1 2 m Q S", "S[m1,2]")
	draws(t, "1 2 m q n Q S", "")
	draws(t, "1 2 m q S Q S", "S[m1,2]")
	draws(t, "q 2 0 0 2 0 0 cm 1 2 m Q 1 2 l S", "S[m2,4 l1,2]")
	draws(t, "q 1 0 0 1 5 6 Tm Q (a) Tj", "T(a) M1,0,0,1,5,6")
	draws(t, "q 1 0 0 1 5 6 Tm Q 1 1 Td (a) Tj", "T(a) M1,0,0,1,6,7")
	draws(t, "q 5 6 Td Q 1 1 Td (a) Tj", "T(a) M1,0,0,1,6,7")
	draws(t, "5 6 Td q BT Q (a) Tj 1 1 Td (b) Tj", "T(a) | T(b) M1,0,0,1,1,1")
	draws(t, "3 TL q (a) ' Q (b) Tj (c) '", "T(a) M1,0,0,1,0,-3 | T(b) M1,0,0,1,0,-3 | T(c) M1,0,0,1,0,-6")
}

func TestHowManyAreKept(t *testing.T) {
	q, back := strings.Repeat("q ", 64), strings.Repeat("Q ", 64)
	for _, b := range []string{"Q", "Q q", "q Q Q", "q Q Q q", "q q Q Q Q", q + back + "Q", "0 0 m f Q", "q 1 w Q Q"} {
		wrong(t, b, api.ErrForm)
	}
	draws(t, q, "")
	draws(t, q+"0 0 m f", "F[m0,0]")
	draws(t, q+back, "")
	draws(t, q+"Q q Q q 0 0 m f", "F[m0,0]")
	draws(t, strings.Repeat("q Q ", 200)+q+"5 w "+back+"0 0 m f", "F[m0,0]")
	wrong(t, q+"q", api.ErrDeep)
	wrong(t, q+"q Q", api.ErrDeep)
	wrong(t, q+"Q q q", api.ErrDeep)
	wrong(t, "q "+back+"Q q", api.ErrForm)
	wrong(t, q+q, api.ErrDeep)
	// Each has a width of its own.
	b, want := "", []string{}
	for i := range 64 {
		b += number(api.Fix(i+2)*1000) + " w q "
	}
	for i := range 64 {
		b += "Q 0 0 m S "
		want = append(want, "S[m0,0] W"+number(api.Fix(65-i)*1000))
	}
	draws(t, b, strings.Join(want, " | "))
}
