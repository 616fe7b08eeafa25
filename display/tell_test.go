package display

import (
	"fmt"
	"reflect"
	"slices"
	"strconv"
	"strings"
	"testing"

	"inkstand/api"
	"inkstand/cos"
	"inkstand/pages"
	"inkstand/store"
)

// How the tests ask.

var none api.Obj

var unit = api.Matrix{1000, 0, 0, 1000, 0, 0}

// obj is the object that a text is; of a Stream the bytes stand behind "stream ".
func obj(s string) api.Obj {
	o, to, e := cos.Parse(s, 0)
	if e != api.OK {
		panic(s)
	}
	if data, ok := strings.CutPrefix(s[to:], "stream "); ok && o.Kind == api.Dict {
		return api.Obj{Kind: api.Stream, D: o.D, S: data}
	}
	if to != len(s) {
		panic(s)
	}
	return o
}

func ref(n int) api.Obj { return api.Obj{Kind: api.Ref, N: n} }

// file is the objects of texts, from the number 1 on.
func file(l ...string) store.File {
	f := store.File{Trailer: obj("<<>>")}
	for i, s := range l {
		f.L = append(f.L, store.Numbered{N: i + 1, O: obj(s)})
	}
	return f
}

// row is a file in which the objects from 1 on lead to one another, so many Refs and then the object that a text is.
func row(refs int, last string) store.File {
	f := file()
	for n := 1; n <= refs; n++ {
		f.L = append(f.L, store.Numbered{N: n, O: ref(n + 1)})
	}
	f.L = append(f.L, store.Numbered{N: refs + 1, O: obj(last)})
	return f
}

// form is the text of a Form with a box of no size and more entries, that draws what bytes tell.
func form(more, b string) string {
	return "<</Subtype/Form/BBox[0 0 0 0]" + more + ">>stream " + b
}

// dot is what such a Form's Clip is told as, under the matrix that changes nothing.
const dot = "X[m0,0 l0,0 l0,0 l0,0 h]"

// number is thousandths as a text.
func number(f api.Fix) string { return strconv.FormatFloat(float64(f)/1000, 'f', -1, 64) }

func numbersTold(l []api.Fix) string {
	var out []string
	for _, f := range l {
		out = append(out, number(f))
	}
	return strings.Join(out, ",")
}

// itemTold is an item as a text: its kind (F, S, B, X for Clip, T for Show), its path or its S, and then each other field that is not what it is at first.
func itemTold(i Item) string {
	var path []string
	for _, p := range i.Path {
		s := p.Op + number(p.X) + "," + number(p.Y)
		path = append(path, strings.TrimSuffix(s, "h0,0")+strings.Repeat("h", strings.Count(s, "h0,0")))
	}
	width := api.Fix(1000)
	out := string("?FSBX"[i.Kind%5]) + "[" + strings.Join(path, " ") + "]"
	if i.Kind == 5 {
		out, width = "T("+i.S+")", 0
		if len(path) > 0 {
			out += strings.Join(path, " ")
		}
	} else if i.S != "" {
		out += "(" + i.S + ")"
	}
	for _, x := range []struct {
		name  string
		l, at []api.Fix
	}{{"M", i.M[:], unit[:]}, {"C", i.C[:], make([]api.Fix, 3)}, {"D", i.D[:], make([]api.Fix, 3)}, {"W", []api.Fix{i.W}, []api.Fix{width}}, {"/" + i.Font + " ", []api.Fix{i.Size}, nil}} {
		if !slices.Equal(x.l, x.at) && x.name+numbersTold(x.l) != "/ 0" {
			out += " " + x.name + numbersTold(x.l)
		}
	}
	return out
}

func told(l []Item) string {
	var out []string
	for _, i := range l {
		out = append(out, itemTold(i))
	}
	return strings.Join(out, " | ")
}

// cut is what is told of a value, where it is long.
func cut(v any) string { return fmt.Sprintf("%.400s", fmt.Sprint(v)) }

// deep is a copy of an object that shares nothing with it.
func deep(o api.Obj) api.Obj {
	o.L, o.D = slices.Clone(o.L), slices.Clone(o.D)
	for i := range o.L {
		o.L[i] = deep(o.L[i])
	}
	for i := range o.D {
		o.D[i].V = deep(o.D[i].V)
	}
	return o
}

func deepFile(f store.File) store.File {
	f.L, f.Trailer = slices.Clone(f.L), deep(f.Trailer)
	for i := range f.L {
		f.L[i].O = deep(f.L[i].O)
	}
	return f
}

func deepItems(l []Item) []Item {
	var out []Item
	for _, i := range l {
		i.Path = append([]Point(nil), i.Path...)
		out = append(out, i)
	}
	return out
}

// sameItems: is all of two lists the same? Lists without elements are.
func sameItems(a, b []Item) bool { return reflect.DeepEqual(deepItems(a), deepItems(b)) }

// checkItems asks twice for items that are new, that share nothing with one another, and that stand beside no error; what is handed in stays.
func checkItems(t *testing.T, what string, f store.File, o api.Obj, want []Item, e api.Errno, ask func() ([]Item, api.Errno)) {
	t.Helper()
	before, beforeO := deepFile(f), deep(o)
	for range 2 {
		l, err := ask()
		if !sameItems(l, want) || err != e || e != api.OK && l != nil {
			t.Errorf("%s of %s: %s %v, not %s %v", what, cut(f.L), cut(told(l)), err, cut(told(want)), e)
			return
		}
		spoil(t, what, l)
	}
	if !reflect.DeepEqual(f, before) || !reflect.DeepEqual(o, beforeO) {
		t.Errorf("%s changed %s, %s", what, cut(before), cut(beforeO))
	}
}

// spoil writes over what some items hold, one after the other, and asks that the others stay.
func spoil(t *testing.T, what string, l []Item) {
	t.Helper()
	for i := range min(len(l), 20) {
		rest := deepItems(l[i+1:])
		for k := range l[i].Path {
			l[i].Path[k] = Point{"spoilt", -77, -77}
		}
		_ = append(l[i].Path, Point{"spoilt", -77, -77})
		if len(rest) < 100 && !sameItems(l[i+1:], rest) {
			t.Errorf("%s: items share their paths", what)
			return
		}
	}
	for i := range l {
		l[i] = Item{Kind: -77}
	}
}

// checkDraws asks what bytes draw, by the text of its items, and the document's words as well.
func checkDraws(t *testing.T, f store.File, res, b, want string, e api.Errno) {
	t.Helper()
	l, err := Run(f, obj(res), []byte(b))
	if told(l) != want || err != e {
		t.Errorf("Run(%s, %s, %.200q): %s %v, not %s %v", cut(f.L), cut(res), b, cut(told(l)), err, cut(want), e)
		return
	}
	if err := checkRun(t, f, obj(res), b); err != e {
		t.Errorf("Run(%s, %s, %.200q): the document's words tell %v, not %v", cut(f.L), cut(res), b, err, e)
	}
}

// draws asks what bytes draw that need no file.
func draws(t *testing.T, b, want string) {
	t.Helper()
	checkDraws(t, file(), "<<>>", b, want, api.OK)
}

// wrong asks for an error of bytes that need no file.
func wrong(t *testing.T, b string, e api.Errno) {
	t.Helper()
	checkDraws(t, file(), "<<>>", b, "", e)
}

// checkFormDraws asks what a Form draws, by the text of its items, and the document's words as well.
func checkFormDraws(t *testing.T, f store.File, x api.Obj, m api.Matrix, want string, e api.Errno) {
	t.Helper()
	l, err := Form(f, x, m)
	if told(l) != want || err != e {
		t.Errorf("Form(%s, %s, %v): %s %v, not %s %v", cut(f.L), cut(x), m, cut(told(l)), err, cut(want), e)
		return
	}
	if err := checkForm(t, f, x, m); err != e {
		t.Errorf("Form(%s, %s, %v): the document's words tell %v, not %v", cut(f.L), cut(x), m, err, e)
	}
}

// checkRun, checkForm and checkPage hold an answer against the document's words (want_test.go), and tell their error.

func checkRun(t *testing.T, f store.File, res api.Obj, b string) api.Errno {
	t.Helper()
	want, e := wantRun(f, res, b)
	in := []byte(b)
	checkItems(t, fmt.Sprintf("Run of %.200q", b), f, res, want, e, func() ([]Item, api.Errno) { return Run(f, res, in) })
	if string(in) != b {
		t.Errorf("Run changed the bytes %.200q", b)
	}
	return e
}

func checkForm(t *testing.T, f store.File, x api.Obj, m api.Matrix) api.Errno {
	t.Helper()
	want, e := wantForm(f, x, m)
	checkItems(t, fmt.Sprintf("Form of %s, %v", cut(x), m), f, x, want, e, func() ([]Item, api.Errno) { return Form(f, x, m) })
	return e
}

func checkPage(t *testing.T, f store.File, p pages.Page) api.Errno {
	t.Helper()
	want, e := wantPage(f, p)
	checkItems(t, fmt.Sprintf("Page of %s", cut(p)), f, p.O, want, e, func() ([]Item, api.Errno) { return Page(f, p) })
	checkItems(t, fmt.Sprintf("Page of %s", cut(p)), f, p.Res, want, e, func() ([]Item, api.Errno) { return Page(f, p) })
	return e
}

// checkSame asks it both ways, and that the lists stay.
func checkSame(t *testing.T, a, b []Item, want bool) {
	t.Helper()
	beforeA, beforeB := deepItems(a), deepItems(b)
	if Same(a, b) != want || Same(b, a) != want || !Same(a, a) || !Same(b, b) {
		t.Errorf("Same(%s, %s) is not %v", cut(told(a)), cut(told(b)), want)
	}
	if !sameItems(a, beforeA) || !sameItems(b, beforeB) {
		t.Error("Same changed", cut(told(beforeA)), cut(told(beforeB)))
	}
}
