package display

import (
	"slices"
	"strings"
	"testing"

	"inkstand/api"
	"inkstand/cos"
	"inkstand/store"
)

// P12.1: Do.

// held is resources in which a name is an object as it is, no Ref.
func held(name string, x api.Obj) api.Obj {
	return cos.Set(obj("<<>>"), "XObject", cos.Set(obj("<<>>"), name, x))
}

func TestDo(t *testing.T) {
	f := file(form("", "1 2 m f"), "1 0 R", "2 0 R", rightRes, "<</X 2 0 R/Y 1 0 R/Z/Z>>", "5 0 R", form("", "(b) Tj"))
	want := dot + " | F[m1,2]"
	for _, res := range []string{rightRes, "<</XObject<</X 2 0 R>>>>", "<</XObject<</X 3 5 R>>>>", "4 0 R", "<</XObject 5 0 R>>", "<</XObject 6 0 R>>", "<</XObject<</A(b)/X 1 0 R/Y 7 0 R>>/Font 7>>"} {
		for _, r := range []api.Obj{obj(res), {Kind: api.Stream, D: obj(strings.Replace(res, "4 0 R", rightRes, 1)).D}} {
			l, e := Run(f, r, []byte("/X Do"))
			if told(l) != want || e != api.OK {
				t.Error(cut(r), told(l), e)
			}
			checkRun(t, f, r, "/X Do")
		}
		checkDraws(t, f, res, "(a) Tj /X Do (c) Tj", "T(a) | "+want+" | T(c)", api.OK)
		checkDraws(t, f, res, "/X Do /X Do", want+" | "+want, api.OK)
	}
	checkDraws(t, f, "<</XObject 5 0 R>>", "/Y Do", want, api.OK)
	checkDraws(t, f, "<</XObject<</X 1 0 R/Y 7 0 R>>>>", "/X Do /Y Do /X Do", want+" | "+dot+" | T(b) | "+want, api.OK)
	checkDraws(t, f, "<</XObject<</A#20B 7 0 R>>>>", "/A#20B Do", dot+" | T(b)", api.OK)
	checkDraws(t, f, "<</XObject<</ 7 0 R>>>>", "/ Do", dot+" | T(b)", api.OK)
}

// A Stream that stands in the resources itself.
func TestDoAsItIs(t *testing.T) {
	x := obj(form("", "1 2 m f"))
	l, e := Run(file(), held("X", x), []byte("/X Do /X Do"))
	if want := dot + " | F[m1,2]"; told(l) != want+" | "+want || e != api.OK {
		t.Error(told(l), e)
	}
	checkRun(t, file(), held("X", x), "/X Do /X Do")
	checkRun(t, store.File{}, held("X", x), "/X Do /Y Do")
	// A key that stands there twice: the first one counts.
	twice := held("X", x)
	twice.D[0].V.D = append(twice.D[0].V.D, api.Entry{Key: "X", V: obj("7")})
	if l, e := Run(file(), twice, []byte("/X Do")); len(l) != 2 || e != api.OK {
		t.Error(l, e)
	}
	slices.Reverse(twice.D[0].V.D)
	if l, e := Run(file(), twice, []byte("/X Do")); l != nil || e != api.ErrType {
		t.Error(l, e)
	}
}

func TestDoOtherSubtype(t *testing.T) {
	for _, x := range []string{"<<>>", "<</BBox[0 0 1 1]>>", "<</Subtype/Image>>", "<</Subtype/PS/BBox[0 0 1 1]>>", "<</Subtype/form/BBox[0 0 1 1]>>", "<</Subtype/Forms/BBox[0 0 1 1]>>", "<</Subtype/ /BBox[0 0 1 1]>>", "<</Subtype(Form)/BBox[0 0 1 1]>>", "<</Subtype[/Form]/BBox[0 0 1 1]>>", "<</Subtype 5/BBox[0 0 1 1]>>", "<</Type/Form/BBox[0 0 1 1]>>", "<</S/Form/BBox[0 0 1 1]>>", "<</Subtype<</Form/Form>>/BBox[0 0 1 1]>>",
		// Nothing of it is looked at.
		"<</Subtype/Image/BBox 7/Matrix 7/Resources 9 0 R/Filter/X/DecodeParms 7>>", "<</Subtype 9 0 R/BBox[0 0 1 1]>>", "<</Subtype 2 0 R/BBox[0 0 1 1]>>",
	} {
		f := file(x+"stream 1 2 m f", "/Form")
		f.L = append(f.L, store.Numbered{N: 9, O: ref(9)})
		checkDraws(t, f, rightRes, "/X Do", "", api.OK)
		checkDraws(t, f, rightRes, "1 2 m (a) Tj /X Do f", "T(a) | F[m1,2]", api.OK)
		l, e := Run(f, held("X", f.L[0].O), []byte("(a) Tj /X Do"))
		if told(l) != "T(a)" || e != api.OK {
			t.Error(x, told(l), e)
		}
	}
}

func TestDoNoStream(t *testing.T) {
	for _, x := range []string{"null", "true", "7", "/Form", "(a)", "[]", "<</Subtype/Form/BBox[0 0 1 1]>>", "<<>>", "8 0 R", "2 0 R"} {
		f := file(x, "/Form")
		checkDraws(t, f, rightRes, "/X Do", "", api.ErrType)
		checkDraws(t, f, rightRes, "(a) Tj /X Do", "", api.ErrType)
		checkDraws(t, f, "<</XObject<</X "+x+">>>>", "/X Do", "", api.ErrType)
		// None of that name.
		f.L[0].O = obj(form("", ""))
		checkDraws(t, f, rightRes, "/Y Do", "", api.ErrType)
		checkDraws(t, f, rightRes, "/x Do", "", api.ErrType)
		checkDraws(t, f, rightRes, "/ Do", "", api.ErrType)
		// Resources, and an XObject of them, of any kind.
		checkDraws(t, f, "<</XObject "+x+">>", "/X Do", "", api.ErrType)
		if x != "<</Subtype/Form/BBox[0 0 1 1]>>" {
			checkDraws(t, f, x, "/X Do", "", api.ErrType)
		}
		checkDraws(t, f, "<</XObject[1 0 R]/X 1 0 R/Xobject<</X 1 0 R>>>>", "/X Do", "", api.ErrType)
	}
	for _, r := range []api.Obj{{Kind: 9, D: obj(rightRes).D}, {Kind: -1, D: obj(rightRes).D}, {Kind: api.Arr, D: obj(rightRes).D}, {Kind: api.Ref, N: 5, D: obj(rightRes).D}} {
		f := file(form("", ""))
		if l, e := Run(f, r, []byte("/X Do")); l != nil || e != api.ErrType {
			t.Error(r, l, e)
		}
		checkRun(t, f, r, "/X Do")
		checkRun(t, f, r, "(a) Tj")
	}
}

func TestDoErrors(t *testing.T) {
	f := file(form("", ""), "2 0 R", "<</XObject 2 0 R>>", "<</X 2 0 R>>")
	for _, res := range []string{"2 0 R", "3 0 R", "<</XObject 2 0 R>>", "<</XObject 4 0 R>>", "<</XObject<</X 2 0 R>>>>"} {
		checkDraws(t, f, res, "/X Do", "", api.ErrCycle)
		checkDraws(t, f, res, "(a) Tj", "T(a)", api.OK)
		checkDraws(t, f, res, "Do", "", api.ErrForm)
		checkDraws(t, f, res, "(X) Do", "", api.ErrForm)
		checkDraws(t, f, res, "7 /X Do", "", api.ErrForm)
	}
	for refs, e := range map[int]api.Errno{62: api.OK, 63: api.OK, 64: api.ErrCycle, 65: api.ErrCycle} {
		want := map[api.Errno]string{api.OK: dot}[e]
		checkDraws(t, row(refs, form("", "")), rightRes, "/X Do", want, e)
		// A Form that stands behind rows, in all places.
		g := row(refs, "<</X 90 0 R>>")
		g.L = append(g.L, store.Numbered{N: 90, O: obj(form("", ""))})
		checkDraws(t, g, "<</XObject 1 0 R>>", "/X Do", want, e)
		g.L[refs].O = obj("<</XObject<</X 90 0 R>>>>")
		checkDraws(t, g, "1 0 R", "/X Do", want, e)
	}
}

// A Form begins with the state where it is drawn, but with a path, text's matrices and states kept of its own.
func TestDoBegins(t *testing.T) {
	const set = ".1 .2 .3 rg .4 .5 .6 RG 7 w /F 8 Tf 9 TL 2 0 0 3 4 5 cm "
	const borne = " M2,0,0,3,4,5 C0.1,0.2,0.3 D0.4,0.5,0.6 W7"
	const clip = "X[m4,5 l4,5 l4,5 l4,5 h]" + borne
	for b, want := range map[string]string{
		"":                " ",
		"1 2 m B":         "B[m6,11]" + borne,
		"B f S":           " ",
		"W":               " ",
		"(a) Tj":          "T(a) M2,0,0,3,4,5 C0.1,0.2,0.3 /F 8",
		"(a) '":           "T(a) M2,0,0,3,4,-22 C0.1,0.2,0.3 /F 8",
		"1 1 Td (a) Tj":   "T(a) M2,0,0,3,6,8 C0.1,0.2,0.3 /F 8",
		"q 1 g Q 1 2 m B": "B[m6,11]" + borne,
		// The Form's Matrix, and then this one.
		"1 0 0 1 1 1 cm 0 0 m f": "F[m6,8] M2,0,0,3,6,8 C0.1,0.2,0.3 D0.4,0.5,0.6 W7",
	} {
		f := file(form("", b))
		want = strings.TrimSuffix(clip+" | "+want, " |  ")
		checkDraws(t, f, rightRes, set+"/X Do", want, api.OK)
		checkDraws(t, f, rightRes, set+"8 8 m 9 9 l 1 0 0 1 5 5 Tm q q /X Do", want, api.OK)
		checkDraws(t, f, rightRes, set+"q 8 8 m 3 3 Td 1 g Q /X Do", want, api.OK)
	}
	// What was kept outside is not taken back inside, and does not count there.
	f := file(form("", "Q"), form("", strings.Repeat("q ", 64)+"(a) Tj"), form("", strings.Repeat("q ", 65)))
	const res = "<</XObject<</X 1 0 R/Y 2 0 R/Z 3 0 R>>>>"
	checkDraws(t, f, res, "q q /X Do", "", api.ErrForm)
	checkDraws(t, f, res, strings.Repeat("q ", 64)+"/Y Do", dot+" | T(a)", api.OK)
	checkDraws(t, f, res, strings.Repeat("q ", 64)+"/Y Do q", "", api.ErrDeep)
	checkDraws(t, f, res, "/Z Do", "", api.ErrDeep)
}

// What a Form leaves is as it was.
func TestDoLeaves(t *testing.T) {
	for _, b := range []string{"", "1 g 1 G 5 w /G 5 Tf 6 TL 2 0 0 2 7 7 cm", "q q q 1 g", "1 2 m 3 4 l", "1 2 m n", "h", "1 0 0 1 8 8 Tm 3 3 Td", "BT", "q 1 g Q", "9 TL T* T*"} {
		f := file(form("", b), form("/Matrix[2 0 0 2 3 3]/Resources<</XObject<</X 3 0 R>>>>", b), form("", "(in) Tj"))
		for _, do := range []string{"/X Do", "/Y Do"} {
			const res = "<</XObject<</X 1 0 R/Y 2 0 R>>>>"
			clip, _ := Run(f, obj(res), []byte(do))
			inside := told(clip)
			checkDraws(t, f, res, "3 TL 7 7 m 4 4 Td "+do+" 8 8 l S (a) Tj (b) '", inside+" | S[m7,7 l8,8] | T(a) M1,0,0,1,4,4 | T(b) M1,0,0,1,4,1", api.OK)
			checkDraws(t, f, res, "q 1 w "+do+" Q 8 8 m S", inside+" | S[m8,8]", api.OK)
			checkDraws(t, f, res, "q "+do+" Q Q", "", api.ErrForm)
			checkDraws(t, f, res, do+" Q", "", api.ErrForm)
			l, e := Run(f, obj(res), []byte("1 0 0 rg "+do+" 1 1 m f"))
			if e != api.OK || itemTold(l[len(l)-1]) != "F[m1,1] C1,0,0" {
				t.Error(b, told(l), e)
			}
			// Names are looked for in the outer resources again.
			checkDraws(t, f, res, do+" /Y Do /X Do "+do, checkTold(t, f, res, do, "/Y Do", "/X Do", do), api.OK)
		}
	}
}

// checkTold is what some texts draw, one behind the other.
func checkTold(t *testing.T, f store.File, res string, l ...string) string {
	t.Helper()
	var all []Item
	for _, b := range l {
		l, e := Run(f, obj(res), []byte(b))
		if e != api.OK {
			t.Error(b, e)
		}
		all = append(all, l...)
	}
	return told(all)
}
