package display

import (
	"fmt"
	"math"
	"strings"
	"testing"

	"inkstand/api"
	"inkstand/cos"
	"inkstand/store"
)

// P12.2

func TestForm(t *testing.T) {
	x := obj("<</BBox[1 2 3 5]>>stream 0 0 m f (a) Tj")
	f := file("1 0 R", "3 0 R")
	f.L = append(f.L, store.Numbered{N: 3, O: x})
	const want = "X[m1,2 l3,2 l3,5 l1,5 h] | F[m0,0] | T(a)"
	for _, o := range []api.Obj{x, ref(2), ref(3)} {
		checkFormDraws(t, f, o, unit, want, api.OK)
		checkFormDraws(t, f, o, api.Matrix{2000, 0, 0, 3000, 4000, 5000}, "X[m6,11 l10,11 l10,20 l6,20 h] M2,0,0,3,4,5 | F[m4,5] M2,0,0,3,4,5 | T(a) M2,0,0,3,4,5", api.OK)
	}
	// By itself, a Form needs no Subtype, nor is it looked at.
	for _, s := range []string{"/Subtype/Form", "/Subtype/Image", "/Subtype 7", "/Type/X"} {
		checkFormDraws(t, f, obj("<</BBox[0 0 0 0]"+s+">>stream (a) Tj"), unit, dot+" | T(a)", api.OK)
	}
	checkFormDraws(t, f, ref(1), unit, "", api.ErrCycle)
	for _, o := range []api.Obj{none, obj("true"), obj("7"), obj("/X"), obj("(a)"), obj("[]"), obj("<</BBox[0 0 0 0]>>"), ref(9), ref(0), ref(-1), {Kind: 9, S: "(a) Tj", D: x.D}, {Kind: -8, S: "(a) Tj", D: x.D}} {
		checkFormDraws(t, f, o, unit, "", api.ErrType)
		checkFormDraws(t, store.File{}, o, api.Matrix{math.MaxInt}, "", api.ErrType)
	}
	for refs, e := range map[int]api.Errno{63: api.OK, 64: api.ErrCycle} {
		checkFormDraws(t, row(refs, form("", "")), ref(1), unit, map[api.Errno]string{api.OK: dot}[e], e)
	}
}

func TestFormMatrix(t *testing.T) {
	f := file("[1 0 0 1 5 7]", "null", "2", "4 0 R", "1 0 R")
	twice := api.Matrix{2000, 0, 0, 2000, 0, 0}
	for entry, want := range map[string]string{
		"":                             "M2,0,0,2,0,0",
		"/Matrix 2 0 R":                "M2,0,0,2,0,0",
		"/Matrix 9 0 R":                "M2,0,0,2,0,0",
		"/Matrix[1 0 0 1 0 0]":         "M2,0,0,2,0,0",
		"/Matrix[1 0 0 1 5 7]":         "M2,0,0,2,10,14",
		"/Matrix 1 0 R":                "M2,0,0,2,10,14",
		"/Matrix 5 0 R":                "M2,0,0,2,10,14",
		"/Matrix[3 0 R 0 0 3 0 R 0 1]": "M4,0,0,4,0,2",
		"/Matrix[0 1 -1 0 0 .5]":       "M0,2,-2,0,0,1",
	} {
		l, e := Form(f, obj(form(entry, "() Tj")), twice)
		if e != api.OK || len(l) != 2 || itemTold(l[1]) != "T() "+want || l[0].M != l[1].M {
			t.Error(entry, told(l), e)
		}
		checkForm(t, f, obj(form(entry, "() Tj")), twice)
	}
	// The Form's own one is done first.
	checkFormDraws(t, f, obj("<</BBox[1 1 2 3]/Matrix[1 2 3 4 5 6]>>stream 1 0 m f"), api.Matrix{7000, 8000, 9000, 10000, 11000, 12000}, "X[m182,204 l207,232 l321,360 l296,332 h] M25,28,57,64,100,112 | F[m125,140] M25,28,57,64,100,112", api.OK)
	for entry, e := range map[string]api.Errno{"/Matrix 3 0 R": api.ErrForm, "/Matrix[]": api.ErrForm, "/Matrix[1 0 0 1 0]": api.ErrForm, "/Matrix[1 0 0 1 0 0 0]": api.ErrForm, "/Matrix/M": api.ErrForm, "/Matrix[1 0 0 1 0/A]": api.ErrForm, "/Matrix[1 0 0 1 0 2 0 R]": api.ErrForm, "/Matrix 4 0 R": api.ErrCycle, "/Matrix[1 0 0 1 4 0 R 0]": api.ErrCycle} {
		checkFormDraws(t, f, obj(form(entry, "")), unit, "", e)
	}
	checkFormDraws(t, f, obj(form("/Matrix[2000000 0 0 1 0 0]", "")), twice, "", api.ErrRange)
	checkFormDraws(t, f, obj(form("", "")), api.Matrix{1 << 32, 0, 0, 1000, 0, 0}, "", api.ErrRange)
	checkFormDraws(t, f, obj(form("", "")), api.Matrix{1000, 0, 0, 1000, 0, math.MinInt}, "", api.ErrRange)
	checkFormDraws(t, f, obj(form("", "")), api.Matrix{}, dot+" M0,0,0,0,0,0", api.OK)
}

func TestFormBox(t *testing.T) {
	f := file("[1 2 3 5]", "3", "null", "4 0 R", "1 0 R")
	const want = "X[m1,2 l3,2 l3,5 l1,5 h]"
	for _, box := range []string{"[1 2 3 5]", "[3 5 1 2]", "[3 2 1 5]", "[1 5 3 2]", "1 0 R", "5 0 R", "[1 2 2 0 R 5]"} {
		checkFormDraws(t, f, obj("<</BBox "+box+">>stream "), unit, want, api.OK)
		checkFormDraws(t, f, obj("<</BBox "+box+">>stream "), api.Matrix{2000, 3000, 5000, 7000, 11000, 13000}, "X[m23,30 l27,36 l42,57 l38,51 h] M2,3,5,7,11,13", api.OK)
		// The Clip leaves no path, and what is in it need not lie there.
		checkFormDraws(t, f, obj("<</BBox "+box+">>stream f 9 9 m S"), unit, want+" | S[m9,9]", api.OK)
		checkFormDraws(t, f, obj("<</BBox "+box+">>stream s"), unit, want+" | S[h]", api.OK)
	}
	for box, e := range map[string]api.Errno{"null": api.ErrForm, "7": api.ErrForm, "[]": api.ErrForm, "[1 2 3]": api.ErrForm, "[1 2 3 4 5]": api.ErrForm, "[1 2 3/A]": api.ErrForm, "3 0 R": api.ErrForm, "[1 2 3 3 0 R]": api.ErrForm, "4 0 R": api.ErrCycle, "[1 4 0 R 3 4]": api.ErrCycle, "[1/A 4 0 R 4]": api.ErrForm} {
		checkFormDraws(t, f, obj("<</BBox "+box+">>stream "), unit, "", e)
	}
	checkFormDraws(t, f, obj("<<>>stream "), unit, "", api.ErrForm)
	// Each corner under a matrix that brings it, alone or first, too far away.
	for _, m := range []api.Matrix{{2000, 0, 0, 1000, 0, 0}, {1000, 0, 0, 2000, 0, 0}, {1000, 2000, 0, 1000, 0, 0}, {1000, 0, 1000, 1000, 0, 0}, {1000, 0, -1000, 1000, 1000, 0}, {1000, 0, 0, 1000, 1000, 0}, {1000, 0, 0, 1000, 0, 1000}} {
		checkForm(t, f, obj("<</BBox[0 0 2147483.648 2147483.648]>>stream "), m)
		checkForm(t, f, obj("<</BBox[-2147483.648 -2147483.648 0 0]>>stream "), m)
	}
	checkFormDraws(t, f, obj("<</BBox[0 0 1200000 1]>>stream "), api.Matrix{2000, 0, 0, 1000, 0, 0}, "", api.ErrRange)
	checkFormDraws(t, f, obj("<</BBox[0 0 1 1200000]>>stream "), api.Matrix{1000, 0, 0, 2000, 0, 0}, "", api.ErrRange)
}

// The Clip bears what each Clip does.
func TestFormClip(t *testing.T) {
	l, e := Form(file(), obj("<</BBox[1 2 3 5]/Matrix[2 0 0 2 0 0]>>stream "), unit)
	want := []Item{{Kind: 4, M: api.Matrix{2000, 0, 0, 2000, 0, 0}, W: 1000, Path: []Point{{"m", 2000, 4000}, {"l", 6000, 4000}, {"l", 6000, 10000}, {"l", 2000, 10000}, {"h", 0, 0}}}}
	if !sameItems(l, want) || e != api.OK {
		t.Error(l, e)
	}
	f := file("<</Subtype/Form/BBox[1 2 3 5]/Matrix[2 0 0 2 0 0]>>stream (a) Tj")
	checkDraws(t, f, rightRes, ".1 .2 .3 rg .4 .5 .6 RG 7 w /F 8 Tf 1 0 0 1 1 1 cm /X Do", "X[m3,5 l7,5 l7,11 l3,11 h] M2,0,0,2,1,1 C0.1,0.2,0.3 D0.4,0.5,0.6 W7 | T(a) M2,0,0,2,1,1 C0.1,0.2,0.3 /F 8", api.OK)
}

func TestFormResources(t *testing.T) {
	const own = "/Resources<</XObject<</X 3 0 R>>>>"
	f := file(form("", "/X Do"), form("", "(outer) Tj"), form("", "(own) Tj"), rightRes, "<</XObject<</X 3 0 R>>>>", "6 0 R", "null")
	const outer = "<</XObject<</X 2 0 R/F 1 0 R>>>>"
	for entry, want := range map[string]string{
		own:                "own",
		"/Resources 5 0 R": "own",
		// Those that it is drawn in.
		"":                                     "outer",
		"/Resources null":                      "outer",
		"/Resources 7 0 R":                     "outer",
		"/Resources 99 0 R":                    "outer",
		"/Resources 7":                         "outer",
		"/Resources/X":                         "outer",
		"/Resources[<</XObject<</X 3 0 R>>>>]": "outer",
		"/Resources(a)":                        "outer",
		"/Resources 3 0 R":                     "outer", // a Stream
		"/Resource<</XObject<</X 3 0 R>>>>":    "outer",
		"/resources<</XObject<</X 3 0 R>>>>":   "outer",
		"/XObject<</X 3 0 R>>":                 "outer",
		"/Resources 7 0 R/XObject<</XObject 3 0 R>>": "outer",
	} {
		f.L[0].O = obj(form(entry, "/X Do"))
		checkDraws(t, f, outer, "/F Do", dot+" | "+dot+" | T("+want+")", api.OK)
		// One in which there is no resource at all.
		if want == "own" {
			checkFormDraws(t, f, ref(1), unit, dot+" | "+dot+" | T(own)", api.OK)
		} else {
			checkFormDraws(t, f, ref(1), unit, "", api.ErrType)
			checkFormDraws(t, f, obj(form(entry, "(a) Tj")), unit, dot+" | T(a)", api.OK)
		}
	}
	// A Dict that is empty is one.
	f.L[0].O = obj(form("/Resources<<>>", "/X Do"))
	checkDraws(t, f, outer, "/F Do", "", api.ErrType)
	f.L[0].O = obj(form("/Resources<</XObject 2 0 R>>", "/X Do"))
	checkDraws(t, f, outer, "/F Do", "", api.ErrType)
	// Its error, whether they are looked at or not.
	f.L[0].O = obj(form("/Resources 6 0 R", "(a) Tj"))
	checkDraws(t, f, outer, "/F Do", "", api.ErrCycle)
	checkFormDraws(t, f, ref(1), unit, "", api.ErrCycle)
	// Through more than one Form; and the outer ones again, behind it.
	f = file(form("", "/Y Do /X Do"), form("", "/X Do"), form("", "(own) Tj"), form("/Resources<</XObject<</X 3 0 R/Y 2 0 R>>>>", "/Y Do /X Do"), form("", "(outer) Tj"))
	checkDraws(t, f, "<</XObject<</X 5 0 R/Y 2 0 R/A 1 0 R/B 4 0 R>>>>", "/A Do /X Do", strings.Join([]string{dot, dot, dot, "T(outer)", dot, "T(outer)", dot, "T(outer)"}, " | "), api.OK)
	checkDraws(t, f, "<</XObject<</X 5 0 R/Y 2 0 R/A 1 0 R/B 4 0 R>>>>", "/B Do /X Do", strings.Join([]string{dot, dot, dot, "T(own)", dot, "T(own)", dot, "T(outer)"}, " | "), api.OK)
}

func TestFormData(t *testing.T) {
	f := file("/Fl", "2 0 R")
	const pressed = "x\x9cK\x04\x00\x00b\x00b" // "a"
	for _, entry := range []string{"/Filter/FlateDecode", "/Filter 1 0 R", "/Filter[/Fl]"} {
		checkFormDraws(t, f, obj(form(entry, pressed)), unit, dot, api.OK)
		checkFormDraws(t, f, obj(form(entry, pressed[:8])), unit, "", api.ErrShort)
	}
	checkFormDraws(t, f, obj(form("/Filter/X", "")), unit, "", api.ErrFilter)
	checkFormDraws(t, f, obj(form("/DecodeParms 7", "")), unit, "", api.ErrFilter)
	checkFormDraws(t, f, obj(form("/Filter 2 0 R", "")), unit, "", api.ErrCycle)
	checkFormDraws(t, f, obj(form("/Filter[0 0 0 0 0 0 0 0 0]", "")), unit, "", api.ErrLarge)
	checkFormDraws(t, f, obj(form("", "(a")), unit, "", api.ErrShort)
	checkFormDraws(t, f, obj(form("", "Q")), unit, "", api.ErrForm)
}

// chain is Forms from the number 1 on, each of which shows its number and draws the next one.
func chain(n int, last string) store.File {
	f := file()
	for i := 1; i <= n; i++ {
		b := fmt.Sprintf("(%d) Tj /X Do", i)
		if i == n {
			b = last
		}
		f.L = append(f.L, store.Numbered{N: i, O: obj(form(fmt.Sprintf("/Resources<</XObject<</X %d 0 R/A 1 0 R>>>>", i+1), b))})
	}
	return f
}

func TestFormsInOneAnother(t *testing.T) {
	for n := 1; n <= 40; n++ {
		f := chain(n, "(last) Tj")
		e := api.Errno(api.OK)
		want := ""
		for i := 1; i < n; i++ {
			want += fmt.Sprintf("%s | T(%d) | ", dot, i)
		}
		want += dot + " | T(last)"
		if n > 16 {
			e, want = api.ErrDeep, ""
		}
		checkFormDraws(t, f, ref(1), unit, want, e)
		checkFormDraws(t, f, store.Find(f, 1), unit, want, e)
		checkDraws(t, f, rightRes, "/X Do", want, e)
		if n == 16 {
			checkDraws(t, f, rightRes, "/X Do /X Do", want+" | "+want, e)
		}
		// As they are, each in the resources of the one ahead.
		x := obj(form("", "(last) Tj"))
		for i := n - 1; i > 0; i-- {
			x = cos.Set(obj(form("", fmt.Sprintf("(%d) Tj /X Do", i))), "Resources", held("X", x))
		}
		checkFormDraws(t, file(), x, unit, want, e)
		l, err := Run(file(), held("X", x), []byte("/X Do"))
		if told(l) != want || err != e {
			t.Error(n, told(l), err)
		}
	}
	// What is no Form may be drawn by the last one.
	f := chain(16, "/X Do")
	checkFormDraws(t, f, ref(1), unit, "", api.ErrType)
	f.L = append(f.L, store.Numbered{N: 17, O: obj("<</Subtype/Image>>stream ")})
	if l, e := Form(f, ref(1), unit); len(l) != 31 || e != api.OK {
		t.Error(len(l), e)
	}
	f.L[16].O = obj("<<>>stream ")
	checkForm(t, f, ref(1), unit)
	// Nothing of the one too many is looked at, but that it is a Form.
	for _, s := range []string{"/Matrix 7", "/Resources 17 0 R", "/Filter/X", "/BBox 7"} {
		f.L[16].O = obj("<</Subtype/Form" + s + ">>stream Q")
		checkFormDraws(t, f, ref(1), unit, "", api.ErrDeep)
	}
}

func TestFormCycle(t *testing.T) {
	for n := 1; n <= 20; n++ {
		// The last one draws the first, or any other that is being drawn.
		for back := 1; back <= n; back++ {
			f := chain(n, "/X Do")
			f.L[n-1].O = obj(form(fmt.Sprintf("/Resources<</XObject<</X %d 0 R>>>>", back), "/X Do"))
			e := api.Errno(api.ErrCycle)
			if n >= 16 {
				// It is too deep as well.
				e = api.ErrDeep
			}
			checkFormDraws(t, f, ref(1), unit, "", e)
			checkDraws(t, f, rightRes, "/X Do", "", e)
		}
	}
	// By the resources that it is drawn in.
	checkDraws(t, file(form("", "/X Do")), rightRes, "/X Do", "", api.ErrCycle)
	// A Form by itself, that no Ref is drawn by, is drawn by one once.
	x := form("/Resources<</XObject<</X 1 0 R>>>>", "(a) Tj /X Do")
	checkFormDraws(t, file(x), obj(x), unit, "", api.ErrCycle)
	// Another one's generation, or another name, is no other number.
	f := file(form("/Resources<</XObject<</Y 1 7 R>>>>", "/Y Do"))
	checkDraws(t, f, rightRes, "/X Do", "", api.ErrCycle)
	// A Ref of another number that leads there: its own number is met the next time.
	f = file(form("/Resources<</XObject<</X 2 0 R>>>>", "/X Do"), "1 0 R")
	checkDraws(t, f, rightRes, "/X Do", "", api.ErrCycle)
	checkFormDraws(t, f, ref(2), unit, "", api.ErrCycle)
	// One that is not drawn does no harm, nor one that is no Form.
	f = file(form("/Resources<</XObject<</X 1 0 R>>>>", "(a) Tj"))
	checkDraws(t, f, rightRes, "/X Do", dot+" | T(a)", api.OK)
	f = file(form("/Resources<</XObject<</X 2 0 R>>>>", "/X Do"), "<</Subtype/Image/Resources<</XObject<</X 1 0 R>>>>>>stream /X Do")
	checkDraws(t, f, rightRes, "/X Do", dot, api.OK)
}

// A Stream that stands there as it is is drawn by no Ref's number, whatever stands in the field of one.
func TestFormCycleAsItIs(t *testing.T) {
	for _, n := range []int{0, 1, -1, 7} {
		inner := obj(form("", "(in) Tj"))
		inner.N = n
		outer := obj(form("", "/X Do"))
		outer = cos.Set(outer, "Resources", held("X", inner))
		f := store.File{L: []store.Numbered{{N: n, O: outer}}}
		const want = dot + " | " + dot + " | T(in)"
		checkFormDraws(t, f, ref(n), unit, want, api.OK)
		// And the other way: the outer one as it is, the inner one by a Ref.
		f.L[0].O = inner
		outer = cos.Set(outer, "Resources", held("X", ref(n)))
		outer.N = n
		checkFormDraws(t, f, outer, unit, want, api.OK)
		// And both as they are, the same one three times.
		outer = cos.Set(outer, "Resources", held("X", outer))
		outer = cos.Set(outer, "Resources", held("X", outer))
		checkFormDraws(t, f, outer, unit, dot+" | "+dot+" | "+dot+" | "+dot+" | T(in)", api.OK)
	}
}

// The same Form, one behind the other, on any level.
func TestFormAgain(t *testing.T) {
	f := file(form("", "(a) Tj"), form("", "/X Do /X Do"), form("", "/Y Do /X Do /Y Do"), form("", "/X Do"))
	const res = "<</XObject<</X 1 0 R/Y 2 0 R/Z 3 0 R>>>>"
	x := dot + " | T(a)"
	y := dot + " | " + x + " | " + x
	z := strings.Join([]string{dot, y, x, y}, " | ")
	checkDraws(t, f, res, "/X Do /X Do /X Do", x+" | "+x+" | "+x, api.OK)
	checkDraws(t, f, res, "/X Do /Y Do /X Do", x+" | "+y+" | "+x, api.OK)
	checkDraws(t, f, res, "/Z Do /Z Do /Y Do /X Do", strings.Join([]string{z, z, y, x}, " | "), api.OK)
	// Behind one that failed there is nothing; a call of its own begins anew.
	checkDraws(t, f, "<</XObject<</X 4 0 R>>>>", "/X Do", "", api.ErrCycle)
	checkDraws(t, f, res, "/X Do", x, api.OK)
}

// Many Forms in one another end, by the items that they lay down.
func TestFormsMany(t *testing.T) {
	f := file()
	for i := 1; i <= 16; i++ {
		b := strings.Repeat("/X Do ", 100)
		if i == 16 {
			b = ""
		}
		f.L = append(f.L, store.Numbered{N: i, O: obj(form(fmt.Sprintf("/Resources<</XObject<</X %d 0 R>>>>", i+1), b))})
	}
	if l, e := Form(f, ref(1), unit); l != nil || e != api.ErrLarge {
		t.Error(len(l), e)
	}
	// Of 2^16-1 there are not too many.
	for i := range f.L[:15] {
		f.L[i].O.S = "/X Do /X Do"
	}
	if l, e := Form(f, ref(1), unit); len(l) != 65535 || e != api.OK {
		t.Error(len(l), e)
	}
	f.L[15].O.S = "() Tj"
	if l, e := Form(f, ref(1), unit); l != nil || e != api.ErrLarge {
		t.Error(len(l), e)
	}
}

// Objects that hold themselves, through a list that they share.
func TestFormHeld(t *testing.T) {
	d := obj(form("/XObject 7/Resources 7", "")).D
	x := api.Obj{Kind: api.Stream, D: d, S: "(a) Tj /XObject Do"}
	res := api.Obj{Kind: api.Dict, D: d}
	for i := range d {
		switch d[i].Key {
		case "XObject":
			d[i].V = x
		case "Resources":
			d[i].V = res
		}
	}
	if l, e := Form(store.File{}, x, unit); l != nil || e != api.ErrDeep {
		t.Error(len(l), e)
	}
	if l, e := Run(store.File{L: []store.Numbered{{N: 1, O: x}}}, res, []byte("/XObject Do")); l != nil || e != api.ErrDeep {
		t.Error(len(l), e)
	}
}
