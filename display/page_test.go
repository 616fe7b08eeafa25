package display

import (
	"strings"
	"testing"

	"inkstand/api"
	"inkstand/pages"
	"inkstand/store"
)

// P12.3

func TestPage(t *testing.T) {
	f := file(form("", "(form) Tj"), "<<>>stream 1 0 0 rg q", "<<>>stream 0 0 m f Q /X Do", "[2 0 R 3 0 R]", "null", "6 0 R", "<</Filter/Fl>>stream x\x9cK\x04\x00\x00b\x00b", "<<>>stream 0 0 m", "<<>>stream S")
	both := "F[m0,0] C1,0,0 | " + dot + " C1,0,0 | T(form) C1,0,0"
	for contents, want := range map[string]string{
		// None.
		"":                  "",
		"/Contents null":    "",
		"/Contents 5 0 R":   "",
		"/Contents 99 0 R":  "",
		"/Contents[]":       "",
		"/Content 2 0 R":    "",
		"/Contents 2 0 R":   "",
		"/Contents[2 0 R]":  "",
		"/Contents 7 0 R":   "",
		"/Contents[7 0 R ]": "",
		// More: one goes on where the one ahead ends.
		"/Contents 4 0 R":                    both,
		"/Contents[2 0 R 3 0 R]":             both,
		"/Contents[2 0 R 7 0 R 3 0 R]":       both,
		"/Contents[8 0 R 9 0 R]":             "S[m0,0]",
		"/Contents[8 0 R 8 0 R 9 0 R 9 0 R]": "S[m0,0 m0,0]",
		// Resources of the page's own Dict are not looked at.
		"/Resources 6 0 R/Contents 4 0 R": both,
		"/Resources<<>>/Contents 4 0 R":   both,
	} {
		p := pages.Page{N: 7, O: obj("<<" + contents + ">>"), Res: obj(rightRes), Box: api.Rect{X0: 5, X1: 7}, Turn: 1}
		l, e := Page(f, p)
		if told(l) != want || e != api.OK {
			t.Errorf("%s: %s %v, not %s", contents, told(l), e, want)
		}
		checkPage(t, f, p)
		// Neither number, box nor turn say anything.
		p.N, p.Box, p.Turn = -1, api.Rect{}, 99
		checkPage(t, f, p)
		p.O = ref(20)
		f.L = append(f.L, store.Numbered{N: 20, O: obj("<<" + contents + ">>")})
		checkPage(t, f, p)
		f.L = f.L[:9]
	}
	for contents, e := range map[string]api.Errno{"/Contents 7": api.ErrType, "/Contents<<>>": api.ErrType, "/Contents/X": api.ErrType, "/Contents[7]": api.ErrType, "/Contents[2 0 R 99 0 R]": api.ErrType, "/Contents 6 0 R": api.ErrCycle, "/Contents[6 0 R 7]": api.ErrCycle, "/Contents 3 0 R": api.ErrForm, "/Contents[3 0 R 7]": api.ErrType, "/Contents[9 0 R 3 0 R 2 0 R]": api.ErrForm} {
		p := pages.Page{O: obj("<<" + contents + ">>"), Res: obj(rightRes)}
		if l, err := Page(f, p); l != nil || err != e {
			t.Error(contents, told(l), err)
		}
		checkPage(t, f, p)
	}
	// By other resources there is no X.
	for _, res := range []string{"null", "<<>>", "7", "<</X 1 0 R>>", "6 0 R"} {
		p := pages.Page{O: obj("<</Contents 4 0 R>>"), Res: obj(res)}
		e := api.Errno(api.ErrType)
		if res == "6 0 R" {
			e = api.ErrCycle
		}
		if l, err := Page(f, p); l != nil || err != e {
			t.Error(res, told(l), err)
		}
		checkPage(t, f, p)
	}
	if l, e := Page(store.File{}, pages.Page{}); len(l) > 0 || e != api.OK {
		t.Error(l, e)
	}
}

// A file whose pages are told by pages.Pages.
func TestPageOfFile(t *testing.T) {
	f := file("<</Pages 2 0 R>>", "<</Kids[3 0 R 4 0 R]/Resources 5 0 R>>", "<</Contents 6 0 R>>", "<</Contents[6 0 R 6 0 R]/Resources<</XObject<</X 8 0 R>>>>>>", "<</XObject<</X 7 0 R>>>>", "<<>>stream /X Do", form("", "(first) Tj"), form("", "(second) Tj"))
	f.Trailer = obj("<</Root 1 0 R>>")
	l, e := pages.Pages(f)
	if len(l) != 2 || e != api.OK {
		t.Fatal(l, e)
	}
	for i, want := range []string{dot + " | T(first)", dot + " | T(second) | " + dot + " | T(second)"} {
		got, e := Page(f, l[i])
		if told(got) != want || e != api.OK {
			t.Error(i, told(got), e)
		}
		checkPage(t, f, l[i])
	}
}

func TestSame(t *testing.T) {
	base := func() []Item {
		return []Item{
			{Kind: Both, M: api.Matrix{1, 2, 3, 4, 5, 6}, Path: []Point{{"m", 1, 2}, {"l", 3, 4}, {"h", 0, 0}}, C: [3]api.Fix{1, 2, 3}, D: [3]api.Fix{4, 5, 6}, W: 7},
			{Kind: Show, M: unit, C: [3]api.Fix{1, 2, 3}, Font: "F", Size: 8, S: "abc"},
			{},
		}
	}
	checkSame(t, base(), base(), true)
	checkSame(t, nil, nil, true)
	checkSame(t, nil, []Item{}, true)
	checkSame(t, []Item{{}}, []Item{{Path: []Point{}}}, true)
	// In Font alone.
	for i := range 3 {
		for _, font := range []string{"", "G", "F F"} {
			other := base()
			other[i].Font = font
			checkSame(t, base(), other, true)
		}
	}
	changes := []func(*Item){
		func(i *Item) { i.Kind++ }, func(i *Item) { i.Kind = -i.Kind - 1 },
		func(i *Item) { i.W++ }, func(i *Item) { i.Size++ }, func(i *Item) { i.Size = -1 }, func(i *Item) { i.S += "d" }, func(i *Item) { i.S = "abC" },
		func(i *Item) { i.Path = append(i.Path, Point{}) }, func(i *Item) { i.Path = append(i.Path, Point{Op: "h"}) }, func(i *Item) { i.Path = append([]Point{{"m", 1, 2}}, i.Path...) },
	}
	for n := range 6 {
		changes = append(changes, func(i *Item) { i.M[n]++ }, func(i *Item) { i.M[n] = -1 - i.M[n] })
	}
	for n := range 3 {
		changes = append(changes, func(i *Item) { i.C[n]++ }, func(i *Item) { i.D[n]++ })
	}
	for i := range 3 {
		for n, change := range changes {
			other := base()
			change(&other[i])
			checkSame(t, base(), other, false)
			other[i].Font += "X"
			checkSame(t, base(), other, false)
			if again := base(); n >= 0 {
				change(&again[i])
				checkSame(t, again, other, true)
			}
		}
	}
	// In a point of a path.
	for n := range 3 {
		for _, change := range []func(*Point){func(p *Point) { p.Op += "x" }, func(p *Point) { p.Op = "" }, func(p *Point) { p.X++ }, func(p *Point) { p.Y-- }} {
			other := base()
			change(&other[0].Path[n])
			checkSame(t, base(), other, false)
		}
		other := base()
		other[0].Path = other[0].Path[:n]
		checkSame(t, base(), other, false)
	}
	other := base()
	other[0].Path[0], other[0].Path[1] = other[0].Path[1], other[0].Path[0]
	checkSame(t, base(), other, false)
	// In length, and in order.
	for n := range 3 {
		checkSame(t, base(), base()[:n], false)
		checkSame(t, base(), base()[3-n:], false)
	}
	checkSame(t, base(), append(base(), Item{}), false)
	other = base()
	other[0], other[1] = other[1], other[0]
	checkSame(t, base(), other, false)
	checkSame(t, []Item{{C: [3]api.Fix{1, 2, 3}}}, []Item{{D: [3]api.Fix{1, 2, 3}}}, false)
	checkSame(t, []Item{{S: "F"}}, []Item{{Font: "F"}}, false)
	checkSame(t, make([]Item, 70000), make([]Item, 70000), true)
	checkSame(t, make([]Item, 70000), make([]Item, 70001), false)
}

// What is drawn is the same by another name of the font, and by another way to tell it.
func TestSameDrawn(t *testing.T) {
	draw := func(b string) []Item {
		t.Helper()
		l, e := Run(file(), none, []byte(b))
		if e != api.OK {
			t.Error(b, e)
		}
		return l
	}
	for _, x := range [][]string{
		{"/F 12 Tf (a) Tj", "/G 12 Tf (a) Tj", "12 0 0 12 0 0 Tm BT /H 12 Tf [(a)] TJ", "q 5 w Q /F 12 Tf (a) Tj"},
		{"0 0 m f", "0 0 m f*", "0 0 m F", "n 0 0 m f n"},
		{"1 2 3 4 re b", "1 2 m 4 2 l 4 6 l 1 6 l h h B", "1 2 3 4 re h B*"},
		{"1 g 0 0 m f", "1 1 1 rg 0 0 m f"},
		{"2 TL T* (a) Tj", "2 TL (a) '", "0 -2 TD (a) Tj", "1 0 0 1 0 -2 Tm (a) Tj"},
		{"", "q Q", "BT ET", "0 0 m n", "% x"},
	} {
		for _, b := range x[1:] {
			checkSame(t, draw(x[0]), draw(b), true)
		}
	}
	for _, x := range [][2]string{{"/F 12 Tf (a) Tj", "/F 13 Tf (a) Tj"}, {"(a) Tj", "(b) Tj"}, {"0 0 m f", "0 0 l f"}, {"0 0 m f", "0 0 m S"}, {"0 0 m f", "0 0 m W"}, {"0 0 m f", "0 0 m h f"}, {"0 0 m f", "0 0 m f 0 0 m f"}, {"(a) Tj", "1 0 0 1 0 1 cm (a) Tj"}, {"0 0 m f", "5 w 0 0 m f"}, {"0 0 m f", "1 G 0 0 m f"}} {
		checkSame(t, draw(x[0]), draw(x[1]), false)
	}
	if strings.Count(told(draw("0 0 m b")), "h") != 1 {
		t.Error(told(draw("0 0 m b")))
	}
}
