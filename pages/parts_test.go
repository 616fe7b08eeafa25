package pages

import (
	"fmt"
	"math"
	"strings"
	"testing"

	"inkstand/api"
	"inkstand/cos"
	"inkstand/store"
)

// P10.3: what a page has.

// What a page's tree holds behind its three nodes, from the number 5 on: a box, a Dict, a turn, null, a ring, a Name, and a Ref to the box.
var held = []string{"[10 20 3 4]", "<</Font 1>>", "270", "null", "9 0 R", "/A", "5 0 R"}

// threeNodes is a page, a node ahead of it, and one ahead of that, each with entries.
func threeNodes(first, second, page string) store.File {
	return tree(append([]string{"<</Kids[3 0 R]" + first + ">>", "<</Kids[4 0 R]" + second + ">>", "<<" + page + ">>"}, held...)...)
}

// onePage is the only page of a file.
func onePage(t *testing.T, f store.File) Page {
	t.Helper()
	l, e := Pages(f)
	if e != api.OK || len(l) != 1 {
		t.Errorf("Pages(%s): %v %v", cut(f), l, e)
		return Page{}
	}
	return l[0]
}

// Each entry of its own, of the node ahead, and of the one ahead of that, in each way that it may be.
func TestHanded(t *testing.T) {
	ways := map[string][]string{
		"MediaBox":  {"", "[1 2 3 4]", "[5 5 1 1]", "5 0 R", "11 0 R", "8 0 R", "99 0 R", "9 0 R", "/A", "[1 2 3]"},
		"Resources": {"", "<<>>", "<</A 1>>", "6 0 R", "8 0 R", "99 0 R", "9 0 R", "/A", "[]", "10 0 R"},
		"Rotate":    {"", "0", "90", "-180", "7 0 R", "8 0 R", "99 0 R", "9 0 R", "/A", "45"},
	}
	for key, l := range ways {
		for _, first := range l {
			for _, second := range l {
				for _, page := range l {
					f := threeNodes(entry(key, first), entry(key, second), entry(key, page))
					want, e := wantPages(f)
					checkPages(t, f, want, e)
				}
			}
		}
	}
}

// entry is the text of an entry, or of none.
func entry(key, value string) string {
	if value == "" {
		return ""
	}
	return "/" + key + " " + value
}

func TestBox(t *testing.T) {
	plain := api.Rect{X1: 612000, Y1: 792000}
	b1, b2, b3 := api.Rect{X0: 1000, Y0: 2000, X1: 3000, Y1: 4000}, api.Rect{X0: 1000, Y0: 1000, X1: 5500, Y1: 5500}, api.Rect{X0: 3000, Y0: 4000, X1: 10000, Y1: 20000}
	for _, x := range []struct {
		first, second, page string
		want                api.Rect
	}{
		{"", "", "", plain},
		{"", "", "[1 2 3 4]", b1},
		{"", "[1 2 3 4]", "", b1},
		{"[1 2 3 4]", "", "", b1},
		{"[1 2 3 4]", "[5.5 5.5 1 1]", "", b2},
		{"[1 2 3 4]", "[5.5 5.5 1 1]", "5 0 R", b3},
		{"/A", "[1 2 3 4]", "", b1},
		{"/A", "9 0 R", "11 0 R", b3},
		{"[1 2 3 4]", "null", "null", b1},
		{"null", "null", "null", plain},
	} {
		f := threeNodes(entry("MediaBox", x.first), entry("MediaBox", x.second), entry("MediaBox", x.page))
		if p := onePage(t, f); p.Box != x.want {
			t.Errorf("%v: %v", x, p.Box)
		}
	}
	// Rect's error; a Ref to Null is none that is Null itself.
	for s, e := range map[string]api.Errno{"/A": api.ErrForm, "[1 2 3]": api.ErrForm, "[1 2 3 /A]": api.ErrForm, "9 0 R": api.ErrCycle, "[1 2 9 0 R 4]": api.ErrCycle, "8 0 R": api.ErrForm, "99 0 R": api.ErrForm, "7": api.ErrForm, "<<>>": api.ErrForm, "true": api.ErrForm} {
		checkWrong(t, threeNodes("", "", entry("MediaBox", s)), e)
		checkWrong(t, threeNodes("", entry("MediaBox", s), ""), e)
		checkWrong(t, threeNodes(entry("MediaBox", s), "", ""), e)
		checkNumbers(t, threeNodes(entry("MediaBox", s), "", "/MediaBox[1 2 3 4]"), 4)
		// Nobody's box: no page has it.
		checkNumbers(t, tree("<</Kids[]"+entry("MediaBox", s)+">>"))
	}
}

func TestResources(t *testing.T) {
	for _, x := range []struct{ first, second, page, want string }{
		{"", "", "", "<<>>"},
		{"", "", "<</A 1>>", "<</A 1>>"},
		{"", "<</A 1>>", "", "<</A 1>>"},
		{"<</A 1>>", "", "", "<</A 1>>"},
		{"<</A 1>>", "<</B 2>>", "<</C 3>>", "<</C 3>>"},
		{"<</A 1>>", "<</B 2>>", "", "<</B 2>>"},
		{"<</A 1>>", "6 0 R", "", "<</Font 1>>"},
		{"<</A 1>>", "", "6 0 R", "<</Font 1>>"},
		{"<</A 1>>", "", "<<>>", "<<>>"},
		// What is no Dict.
		{"<</A 1>>", "<</B 2>>", "8 0 R", "<<>>"},
		{"<</A 1>>", "<</B 2>>", "99 0 R", "<<>>"},
		{"<</A 1>>", "<</B 2>>", "/A", "<<>>"},
		{"<</A 1>>", "[<</B 2>>]", "", "<<>>"},
		{"10 0 R", "", "", "<<>>"},
		{"7", "", "", "<<>>"},
		{"9 0 R", "", "<</A 9 0 R>>", "<</A 9 0 R>>"},
	} {
		f := threeNodes(entry("Resources", x.first), entry("Resources", x.second), entry("Resources", x.page))
		if p := onePage(t, f); !same(p.Res, obj(x.want)) {
			t.Errorf("%v: %v", x, p.Res)
		}
	}
	// A Stream has entries too, but is no Dict.
	f := threeNodes("", "", "")
	f.L[3].O = api.Obj{Kind: api.Dict, D: []api.Entry{{Key: "Resources", V: obj("<</A 1>>stream x")}}}
	if p := onePage(t, f); !same(p.Res, obj("<<>>")) {
		t.Error(p.Res)
	}
	for _, s := range []string{"9 0 R"} {
		checkWrong(t, threeNodes("", "", entry("Resources", s)), api.ErrCycle)
		checkWrong(t, threeNodes("", entry("Resources", s), ""), api.ErrCycle)
		checkWrong(t, threeNodes(entry("Resources", s), "", ""), api.ErrCycle)
	}
}

func TestTurn(t *testing.T) {
	for s, want := range map[string]int{
		"": 0, "0": 0, "90": 1, "180": 2, "270": 3, "360": 0, "450": 1, "540": 2, "630": 3, "720": 0, "-90": 3, "-180": 2, "-270": 1, "-360": 0, "-450": 3, "-540": 2, "-630": 1, "-720": 0,
		"90.0": 1, "180.": 2, "+270": 3, "-90.000": 3, "-0": 0, "2147400": 0, "2147310": 3, "-2147400": 0, "-2147310": 1,
		// No multiples of 90.
		"1": 0, "45": 0, "89": 0, "91": 0, "89.999": 0, "90.001": 0, "90.5": 0, "-89": 0, "-91": 0, "-90.001": 0, "0.09": 0, "0.001": 0, "270.5": 0, "269": 0, "100": 0,
		// No Nums.
		"/90": 0, "(90)": 0, "true": 0, "[90]": 0, "<</Rotate 90>>": 0, "8 0 R": 0, "99 0 R": 0, "10 0 R": 0,
		"7 0 R": 3,
	} {
		for _, f := range []store.File{threeNodes("", "", entry("Rotate", s)), threeNodes("/Rotate 45", entry("Rotate", s), ""), threeNodes(entry("Rotate", s), "", "")} {
			if p := onePage(t, f); p.Turn != want {
				t.Errorf("%q: %d, not %d", s, p.Turn, want)
			}
		}
	}
	if p := onePage(t, threeNodes("/Rotate 90", "/Rotate 180", "/Rotate 270")); p.Turn != 3 {
		t.Error(p.Turn)
	}
	// What is no turn is the page's own all the same.
	if p := onePage(t, threeNodes("/Rotate 90", "/Rotate 180", "/Rotate/A")); p.Turn != 0 {
		t.Error(p.Turn)
	}
	checkWrong(t, threeNodes("", "", "/Rotate 9 0 R"), api.ErrCycle)
	checkWrong(t, threeNodes("", "/Rotate 9 0 R", ""), api.ErrCycle)
	checkWrong(t, threeNodes("/Rotate 9 0 R", "", ""), api.ErrCycle)
}

// Turns of all sizes, also of those that may be no number's.
func TestTurnAny(t *testing.T) {
	check := func(n api.Fix) {
		f := tree("<<>>")
		f.L[1].O = cos.Set(obj("<<>>"), "Rotate", api.Obj{Kind: api.Num, F: n})
		l, e := Pages(f)
		if want := wantTurn(n); e != api.OK || len(l) != 1 || l[0].Turn != want {
			t.Errorf("%d: %v %v, not %d", n, l, e, want)
		}
	}
	for k := api.Fix(-30); k <= 30; k++ {
		for _, d := range []api.Fix{-1000, -1, 0, 1, 1000, 90, 360, 45000} {
			check(90000*k + d)
			check(math.MaxInt - math.MaxInt%90000 - 90000*(k+30) + d%1000)
			check(math.MinInt - math.MinInt%90000 + 90000*(k+30) + d%1000)
		}
	}
	for d := range api.Fix(1000) {
		check(math.MaxInt - d)
		check(math.MinInt + d)
	}
}

// O is the Dict as it stands, and N the Ref's number.
func TestPageItself(t *testing.T) {
	s := "<</Type/Page/Parent 3 0 R/Contents[9 0 R]/MediaBox 5 0 R/A<</B[1 2.5(x)]>>>>"
	f := threeNodes("/Resources 6 0 R", "/Rotate 90/MediaBox[0 0 1 1]", "")
	f.L[3].O = obj(s)
	want := Page{N: 4, O: obj(s), Res: obj("<</Font 1>>"), Box: api.Rect{X0: 3000, Y0: 4000, X1: 10000, Y1: 20000}, Turn: 1}
	checkPages(t, f, []Page{want}, api.OK)
	// Twice the key: the first entry counts, also one that is Null.
	f.L[3].O = api.Obj{Kind: api.Dict, D: []api.Entry{{Key: "Rotate"}, {Key: "Rotate", V: cos.Int(180)}, {Key: "MediaBox", V: arr(cos.Int(1), cos.Int(2), cos.Int(3), cos.Int(4))}, {Key: "MediaBox", V: cos.Int(7)}}}
	checkPages(t, f, []Page{{N: 4, O: f.L[3].O, Res: want.Res, Box: api.Rect{X0: 1000, Y0: 2000, X1: 3000, Y1: 4000}, Turn: 1}}, api.OK)
}

// An entry that stands behind many others.
func TestManyEntries(t *testing.T) {
	f := threeNodes("/MediaBox[1 1 2 2]/Rotate 270", "", "")
	var d []api.Entry
	for n := range 500 {
		d = append(d, api.Entry{Key: fmt.Sprint("K", n), V: cos.Int(n)})
	}
	f.L[3].O.D = append(d, obj("<</Resources<</A 1>>/Rotate 180/MediaBox[3 4 1 2]>>").D...)
	checkPages(t, f, []Page{{N: 4, O: f.L[3].O, Res: obj("<</A 1>>"), Box: api.Rect{X0: 1000, Y0: 2000, X1: 3000, Y1: 4000}, Turn: 2}}, api.OK)
}

// Kids of one node get what stands in it, not what stands in one another.
func TestHandedAside(t *testing.T) {
	f := tree("<</Kids[3 0 R 4 0 R 5 0 R]/Rotate 90>>", "<</MediaBox[1 1 2 2]/Rotate 180/Resources<</A 1>>>>", "<<>>", "<</Kids[6 0 R 7 0 R]/MediaBox[3 3 4 4]>>", "<</Resources<</B 2>>>>", "<<>>")
	plain, b1, b2 := api.Rect{X1: 612000, Y1: 792000}, api.Rect{X0: 1000, Y0: 1000, X1: 2000, Y1: 2000}, api.Rect{X0: 3000, Y0: 3000, X1: 4000, Y1: 4000}
	empty := obj("<<>>")
	checkPages(t, f, []Page{
		{N: 3, O: f.L[2].O, Res: obj("<</A 1>>"), Box: b1, Turn: 2},
		{N: 4, O: f.L[3].O, Res: empty, Box: plain, Turn: 1},
		{N: 6, O: f.L[5].O, Res: obj("<</B 2>>"), Box: b2, Turn: 1},
		{N: 7, O: f.L[6].O, Res: empty, Box: b2, Turn: 1},
	}, api.OK)
}

// Just these three are handed on.
func TestNotHanded(t *testing.T) {
	f := threeNodes("/Contents 5 0 R/CropBox[1 2 3 4]/Annots[]/mediabox[1 2 3 4]", "/MediaBo[1 2 3 4]/UserUnit 2/Rotates 90/Resource<</A 1>>", "")
	p := onePage(t, f)
	if len(p.O.D) != 0 || p.Box.X1 != 612000 || p.Turn != 0 || len(p.Res.D) != 0 {
		t.Error(p)
	}
}

// Which of two errors comes first.
func TestErrorsInOrder(t *testing.T) {
	for s, e := range map[string]api.Errno{
		// Of one node: Kids, box, resources, turn.
		"/Kids 7/MediaBox 9 0 R/Resources 9 0 R":      api.ErrType,
		"/Kids 9 0 R/MediaBox 7/Rotate 9 0 R":         api.ErrCycle,
		"/MediaBox 7/Resources 9 0 R/Rotate 9 0 R":    api.ErrForm,
		"/Rotate 9 0 R/Resources 9 0 R/MediaBox/A":    api.ErrForm,
		"/Rotate 9 0 R/Resources<<>>/MediaBox[1 2 3]": api.ErrForm,
		"/MediaBox[9 0 R 7 8/A]/Resources 9 0 R":      api.ErrCycle,
		"/Resources 7/Rotate 9 0 R":                   api.ErrCycle,
		"/Kids[]/MediaBox 9 0 R":                      api.OK,
	} {
		f := threeNodes("", "", s)
		if e == api.OK {
			checkNumbers(t, f)
			continue
		}
		checkWrong(t, f, e)
		// A node that was met ahead of it ends all with its own.
		checkWrong(t, tree("<</Kids[3 0 R 4 0 R]>>", "<</MediaBox[1]>>", "<<"+strings.ReplaceAll(s, "9 0 R", "5 0 R")+">>", "5 0 R"), api.ErrForm)
		checkWrong(t, tree("<</Kids[3 0 R 4 0 R]>>", "<</Kids/A>>", "<<"+strings.ReplaceAll(s, "9 0 R", "5 0 R")+">>", "5 0 R"), api.ErrType)
		checkWrong(t, tree("<</Kids[3 0 R 4 0 R]>>", "<</Kids[3 0 R]>>", "<<"+strings.ReplaceAll(s, "9 0 R", "5 0 R")+">>", "5 0 R"), api.ErrCycle)
	}
	// A node's own errors go ahead of its kids'; all of a kid's behind it, ahead of the next one's.
	checkWrong(t, tree("<</Kids[3 0 R 7]>>", "<</Kids[4 0 R 4 0 R]>>", "<<>>"), api.ErrCycle)
	checkWrong(t, tree("<</Kids[3 0 R 3 0 R]>>", "<</Kids[4 0 R 7]>>", "<<>>"), api.ErrType)
	checkWrong(t, tree("<</Kids[7 3 0 R 3 0 R]>>", "<</Kids 5>>"), api.ErrType)
	checkWrong(t, tree("<</Kids[3 0 R 3 0 R]>>", "<</MediaBox 5>>"), api.ErrForm)
	// A number that was met goes ahead of what it leads to.
	checkWrong(t, tree("<</Kids[3 0 R 2 0 R 5]>>", "<<>>"), api.ErrCycle)
}
