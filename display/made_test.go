package display

import (
	"fmt"
	"math/rand"
	"strings"
	"testing"

	"inkstand/api"
	"inkstand/pages"
	"inkstand/store"
)

// Made texts and files: what is answered is held against the document's words (want_test.go).

// All texts of four pieces.
func TestAllTexts(t *testing.T) {
	pieces := []string{"q", "Q", "2 0 0 2 1 0 cm", "1 g", "1 2 m", "h", "1 1 2 2 re", "f", "s", "W", "n", "1 2 Td", "3 TL", "T*", "(a) '", "BT", "/F 2 Tf", "/X Do", "/Y Do", "w", "x"}
	f := file(form("", "1 2 l S (b) Tj q 3 w"), "<</Subtype/Image>>stream ")
	res := obj("<</XObject<</X 1 0 R/Y 2 0 R>>>>")
	met := map[api.Errno]int{}
	var more func(b string, n int)
	more = func(b string, n int) {
		b += " "
		want, e := wantRun(f, res, b)
		got, err := Run(f, res, []byte(b))
		if !sameItems(got, want) || err != e {
			t.Errorf("Run(%q): %s %v, not %s %v", b, told(got), err, told(want), e)
		}
		met[e]++
		for _, p := range pieces {
			if n > 0 {
				more(b+p, n-1)
			}
		}
	}
	more("", 4)
	if met[api.OK] < 50000 || met[api.ErrForm] < 20000 {
		t.Error("too few of a kind:", met)
	}
}

// rough is an operator, seldom with objects that it may not have, or one that may be too much where it stands.
func rough(r *rand.Rand) string {
	names := append([]string{"q", "q", "q", "Q", "Do", "Do", "Do"}, inner...)
	b := someOperator(r, names[r.Intn(len(names))])
	switch r.Intn(160) {
	case 0:
		return pick(r, "w ", "(a) TJ ", "/F Tf ", "1 2 3 rg 4 RG ", "/X cm ", "2 0 0 0 0 cm ", "[] Tj ", "Do ", "(X) Do ", "1 re ")
	case 1:
		return pick(r, "2147483.648 2 m ", "-2147483.648 2147483.648 TD ", "2147483.648 TL ", "2000000 0 0 2 0 0 cm ", "0 0 2147483 2147483 re ", "2000000 0 0 2000000 0 0 Tm ")
	case 2:
		return strings.Repeat("q ", 40+r.Intn(30))
	case 3:
		return pick(r, "BI ", "] ", "( ", "99999999 ", "/N Do ", "/E1 Do ")
	}
	return b
}

func roughText(r *rand.Rand, n int) string {
	b := ""
	for range n {
		b += rough(r)
	}
	return b
}

// someObj is what may lead to a Form, or be one.
func someObj(r *rand.Rand, objects int) string {
	if r.Intn(3) > 0 {
		return fmt.Sprintf("%d 0 R", 1+r.Intn(objects+1))
	}
	return pick(r, "null", "7", "/Form", "<<>>", "[1 0 R]", "(a)")
}

// someResources are most often right ones, with a Ref of each name.
func someResources(r *rand.Rand, objects, at int) string {
	if r.Intn(40) == 0 {
		return someObj(r, objects)
	}
	names := ""
	for _, name := range []string{"X", "Y", "Z"} {
		// Most often those behind: so there are few rings.
		n := at + 1 + r.Intn(max(1, objects-at))
		if r.Intn(10) == 0 {
			n = 1 + r.Intn(objects+1)
		}
		names += fmt.Sprintf("/%s %d 0 R", name, n)
		if r.Intn(30) == 0 {
			names += "/" + name + " " + someObj(r, objects)
		}
	}
	if r.Intn(20) == 0 {
		return "<</XObject " + someObj(r, objects) + ">>"
	}
	return "<</XObject<<" + names + ">>>>"
}

// someForm is one, most often right, that may draw others.
func someForm(r *rand.Rand, objects, at int) string {
	switch r.Intn(30) {
	case 0:
		return someObj(r, objects)
	case 1:
		return "<</Subtype/Image>>stream x"
	}
	s := "<</Subtype" + pick(r, "/Form", "/Form", "/Form", "/Form", "/Form", "/Form", "/Form", "/Image")
	if r.Intn(4) == 0 {
		s += "/Matrix" + pick(r, "[2 0 0 2 0 0]", "[1 0 0 1 5 -3]", "[0 1 -1 0 0 0]", "[.5 0 0 .25 1 1]", " null", "[1 2 3 4 5 6]", "[1 0 0 1 0 0]")
	}
	s += "/BBox" + pick(r, "[0 0 1 1]", "[0 0 0 0]", "[5 6 1 2]", "[-.5 0 1 3]")
	if r.Intn(40) == 0 {
		s += pick(r, "/Matrix 7", "/BBox[1]", "/Matrix[2000000 0 0 1 0 0]", "/Filter/X", "/DecodeParms[]", "/Filter/Fl")
	}
	if r.Intn(2) == 0 {
		s += "/Resources " + someResources(r, objects, at)
	}
	b := roughText(r, r.Intn(6))
	if r.Intn(3) == 0 {
		// A Form that draws one other just.
		b += pick(r, "/X Do", "/Y Do", "(x) Tj /Z Do")
	}
	return s + ">>stream " + b
}

func TestManyFiles(t *testing.T) {
	r := rand.New(rand.NewSource(1201))
	met := map[api.Errno]int{}
	items := 0
	for range 12000 {
		objects := 1 + r.Intn(24)
		f := file()
		for n := 1; n <= objects; n++ {
			f.L = append(f.L, store.Numbered{N: n, O: obj(someForm(r, objects, n))})
		}
		res := obj(someResources(r, objects, 0))
		b := roughText(r, r.Intn(14))
		met[checkRun(t, f, res, b)]++
		l, _ := wantRun(f, res, b)
		items += len(l)
		m := unit
		if r.Intn(2) == 0 {
			m = fraction(r)
		}
		met[checkForm(t, f, ref(1), m)]++
		f.L = append(f.L, store.Numbered{N: 90, O: obj("<<>>stream " + b)})
		p := pages.Page{O: obj(pick(r, "<</Contents 90 0 R>>", "<</Contents[90 0 R 90 0 R]>>", "<</Contents[90 0 R 1 0 R]>>", "<<>>")), Res: res}
		met[checkPage(t, f, p)]++
	}
	for e, least := range map[api.Errno]int{api.OK: 8000, api.ErrForm: 2000, api.ErrType: 500, api.ErrCycle: 500, api.ErrRange: 300, api.ErrDeep: 100, api.ErrShort: 30, api.ErrFilter: 30} {
		if met[e] < least {
			t.Error("too few of a kind:", met)
		}
	}
	if items < 10000 {
		t.Error("too few items:", items, met)
	}
}

func TestManyTexts(t *testing.T) {
	r := rand.New(rand.NewSource(1202))
	met := map[api.Errno]int{}
	for range 20000 {
		met[checkRun(t, someFile(), obj(someRes), roughText(r, r.Intn(40)))]++
	}
	for e, least := range map[api.Errno]int{api.OK: 2000, api.ErrForm: 2000, api.ErrType: 20, api.ErrRange: 300, api.ErrDeep: 20, api.ErrShort: 20} {
		if met[e] < least {
			t.Error("too few of a kind:", met)
		}
	}
}

// P1

func TestNonePanics(t *testing.T) {
	odd := []api.Obj{none, {Kind: -1}, {Kind: 99, L: make([]api.Obj, 3)}, {Kind: api.Stream}, {Kind: api.Dict, D: make([]api.Entry, 3)}, {Kind: api.Ref, N: -7}, {Kind: api.Name, S: "Form", D: obj(rightRes).D}, {Kind: api.Stream, S: "/ Do q", D: obj("<</XObject<</X 1 0 R>>/Subtype/Form/BBox[0 0 1 1]/Resources 1 0 R>>").D}}
	texts := []string{"", "/X Do", "/ Do", "q (a) Tj", "Q", "\xff\x00", "(", strings.Repeat("q ", 70), strings.Repeat("/X Do 1 w ", 100)}
	for _, x := range odd {
		f := store.File{L: []store.Numbered{{N: 1, O: x}, {N: -7, O: x}}, Trailer: x}
		for _, res := range odd {
			for _, b := range texts {
				checkRun(t, f, res, b)
			}
			checkPage(t, f, pages.Page{O: x, Res: res})
			checkForm(t, f, res, api.Matrix{1 << 40, -1, 0, 5})
			checkForm(t, f, res, unit)
			checkRun(t, f, held("X", res), "/X Do")
		}
	}
}

func FuzzDisplay(f *testing.F) {
	f.Add("1 0 0 rg 0 0 10 10 re f /X Do q 2 w Q", "BT /F 5 Tf 3 TL (a) ' ET /Y Do")
	f.Add("q q Q Q Q", "[(a) 1 (b)] TJ 1 2 3 4 5 6 Tm T* s W* n")
	f.Fuzz(func(t *testing.T, b, inside string) {
		g := someFile()
		g.L = append(g.L, store.Numbered{N: 4, O: api.Obj{Kind: api.Stream, D: obj(form("/Resources<</XObject<</X 1 0 R/Y 4 0 R>>>>", "")).D, S: inside}})
		res := obj("<</XObject<</X 4 0 R/Y 2 0 R/Z 3 0 R>>>>")
		checkRun(t, g, res, b)
		checkForm(t, g, ref(4), unit)
		g.L[0].O = api.Obj{Kind: api.Stream, S: b}
		checkPage(t, g, pages.Page{O: obj("<</Contents 1 0 R>>"), Res: res})
		l, _ := Run(g, res, []byte(b))
		checkSame(t, l, deepItems(l), true)
	})
}
