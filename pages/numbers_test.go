package pages

import (
	"math"
	"testing"

	"inkstand/api"
	"inkstand/cos"
	"inkstand/geom"
	"inkstand/store"
)

// P10.1, and P10.5 of what RectOf tells.

// leading is a file in which 1 leads to 5, 2 to 1, 3 to a ring, 4 to a Name, 5 to null, and 6 and 7 to a box and a matrix.
func leading() store.File {
	return file("5.5", "1 0 R", "3 0 R", "/A", "null", "[1 2 0 R 7 8]", "[1 2 3 4 2 0 R 6]", "6 0 R", "7 0 R")
}

func TestRect(t *testing.T) {
	f := leading()
	for s, want := range map[string]api.Rect{
		"[0 0 612 792]":                   {X0: 0, Y0: 0, X1: 612000, Y1: 792000},
		"[1 2 3 4]":                       {X0: 1000, Y0: 2000, X1: 3000, Y1: 4000},
		"[3 2 1 4]":                       {X0: 1000, Y0: 2000, X1: 3000, Y1: 4000},
		"[1 4 3 2]":                       {X0: 1000, Y0: 2000, X1: 3000, Y1: 4000},
		"[3 4 1 2]":                       {X0: 1000, Y0: 2000, X1: 3000, Y1: 4000},
		"[4 3 2 1]":                       {X0: 2000, Y0: 1000, X1: 4000, Y1: 3000},
		"[0 0 0 0]":                       {},
		"[-1.5 .25 -7 -0.001]":            {X0: -7000, Y0: -1, X1: -1500, Y1: 250},
		"[1 0 R 2 0 R 7 1 0 R]":           {X0: 5500, Y0: 5500, X1: 7000, Y1: 5500},
		"[2147483 -2147483 2147483 9]":    {X0: 2147483000, Y0: -2147483000, X1: 2147483000, Y1: 9000},
		"[ 1 2% a comment\n3 4 ]":         {X0: 1000, Y0: 2000, X1: 3000, Y1: 4000},
		"6 0 R":                           {X0: 1000, Y0: 5500, X1: 7000, Y1: 8000},
		"8 0 R":                           {X0: 1000, Y0: 5500, X1: 7000, Y1: 8000},
		"[1 0 R 1 7 R 1 65535 R 2 0 R]":   {X0: 5500, Y0: 5500, X1: 5500, Y1: 5500},
		"[0.0 1.000 2.001 3.]":            {X0: 0, Y0: 1000, X1: 2001, Y1: 3000},
		"[1 0 R 0 -3.5 2 0 R]":            {X0: -3500, Y0: 0, X1: 5500, Y1: 5500},
		"[1 2 0 R 0 0]":                   {X0: 0, Y0: 0, X1: 1000, Y1: 5500},
		"[-1 -2 -3 -4]":                   {X0: -3000, Y0: -4000, X1: -1000, Y1: -2000},
		"[10 20 10 20]":                   {X0: 10000, Y0: 20000, X1: 10000, Y1: 20000},
		"[0.0004 0.0005 -0.0004 -0.0005]": {X0: 0, Y0: -1, X1: 0, Y1: 1},
	} {
		checkRect(t, f, obj(s), want, api.OK)
	}
}

func TestRectWrong(t *testing.T) {
	f := leading()
	for s, e := range map[string]api.Errno{
		// No Arr.
		"null": api.ErrForm, "true": api.ErrForm, "7": api.ErrForm, "/A": api.ErrForm, "(a)": api.ErrForm, "<</A[1 2 3 4]>>": api.ErrForm, "1 0 R": api.ErrForm, "4 0 R": api.ErrForm, "5 0 R": api.ErrForm, "99 0 R": api.ErrForm,
		"<<>>stream [1 2 3 4]": api.ErrForm,
		// Not four.
		"[]": api.ErrForm, "[1]": api.ErrForm, "[1 2]": api.ErrForm, "[1 2 3]": api.ErrForm, "[1 2 3 4 5]": api.ErrForm, "[1 2 3 4 5 6]": api.ErrForm, "[1 2 3 null 4]": api.ErrForm, "[[1 2 3 4]]": api.ErrForm, "7 0 R": api.ErrForm,
		"[3 0 R 3 0 R 3 0 R]": api.ErrForm, "[1 2 3 4 3 0 R]": api.ErrForm, "[3 0 R]": api.ErrForm,
		// Four that are not all Nums.
		"[null 2 3 4]": api.ErrForm, "[1 /A 3 4]": api.ErrForm, "[1 2 (3) 4]": api.ErrForm, "[1 2 3 true]": api.ErrForm, "[1 2 3[4]]": api.ErrForm, "[1 2 3<<>>]": api.ErrForm, "[4 0 R 2 3 4]": api.ErrForm, "[1 2 3 99 0 R]": api.ErrForm, "[1 5 0 R 3 4]": api.ErrForm, "[1 2 3 6 0 R]": api.ErrForm,
		// Resolve's error: of the object, and of the four, ahead of one that is no Num and behind it.
		"3 0 R": api.ErrCycle, "[3 0 R 2 3 4]": api.ErrCycle, "[1 2 3 3 0 R]": api.ErrCycle, "[3 0 R /A 3 4]": api.ErrCycle, "[/A 3 0 R 3 4]": api.ErrForm, "[1 3 0 R 4 0 R 4]": api.ErrCycle, "[1 4 0 R 3 0 R 4]": api.ErrForm, "[1 2 3 0 R null]": api.ErrCycle, "[1 2 null 3 0 R]": api.ErrForm, "[3 0 R 3 0 R 3 0 R 3 0 R]": api.ErrCycle,
	} {
		checkRect(t, f, obj(s), api.Rect{}, e)
	}
	checkRect(t, store.File{}, ref(1), api.Rect{}, api.ErrForm)
	checkRect(t, store.File{}, none, api.Rect{}, api.ErrForm)
	checkRect(t, f, api.Obj{Kind: 99, L: obj("[1 2 3 4]").L}, api.Rect{}, api.ErrForm)
	checkRect(t, f, api.Obj{Kind: -5, L: obj("[1 2 3 4]").L}, api.Rect{}, api.ErrForm)
	checkRect(t, f, api.Obj{Kind: api.Dict, L: obj("[1 2 3 4]").L}, api.Rect{}, api.ErrForm)
}

// Numbers of any size are told as they are: what they may be is asked by nobody here.
func TestRectAny(t *testing.T) {
	f := store.File{}
	num := func(f api.Fix) api.Obj { return api.Obj{Kind: api.Num, F: f, N: -3, S: "x", L: []api.Obj{none}} }
	for _, r := range someRects() {
		o := arr(num(r.X0), num(r.Y0), num(r.X1), num(r.Y1))
		o.N, o.F, o.S, o.D = 7, 8, "x", []api.Entry{{Key: "A"}}
		checkRect(t, f, o, geom.Norm(r), api.OK)
	}
}

func someRects() []api.Rect {
	edges := []api.Fix{0, 1, -1, 999, 1000, 1001, -1000, -999, 500, 612000, api.MaxFix, -api.MaxFix, api.MaxFix + 1, math.MaxInt, math.MinInt, math.MinInt + 1}
	var l []api.Rect
	for _, a := range edges {
		for _, b := range edges {
			l = append(l, api.Rect{X0: a, Y0: b, X1: b, Y1: a}, api.Rect{X0: a, Y0: b, X1: 5, Y1: 1000}, api.Rect{X0: 0, Y0: -7500, X1: a, Y1: b}, api.Rect{X0: a, Y0: 1, X1: b, Y1: 2})
		}
	}
	return l
}

func TestMatrix(t *testing.T) {
	f := leading()
	unit := api.Matrix{1000, 0, 0, 1000, 0, 0}
	for s, want := range map[string]api.Matrix{
		"[1 2 3 4 5 6]":                   {1000, 2000, 3000, 4000, 5000, 6000},
		"[6 5 4 3 2 1]":                   {6000, 5000, 4000, 3000, 2000, 1000},
		"[-.5 0 0 0.001 2147483 -9.25]":   {-500, 0, 0, 1, 2147483000, -9250},
		"[0 0 0 0 0 0]":                   {},
		"7 0 R":                           {1000, 2000, 3000, 4000, 5500, 6000},
		"9 0 R":                           {1000, 2000, 3000, 4000, 5500, 6000},
		"[1 0 R 0 2 0 R 1 1 0 R 2 0 R]":   {5500, 0, 5500, 1000, 5500, 5500},
		"null":                            unit,
		"5 0 R":                           unit,
		"99 0 R":                          unit,
		"[1 0 0 1 0 0]":                   unit,
		"[1.0 0. 0.0 1.000 .0 0.00]":      unit,
		"[2 0 0 3 1 0 R -4]":              {2000, 0, 0, 3000, 5500, -4000},
		"[0.0005 -0.0005 0.0004 0 1 1.5]": {1, -1, 0, 0, 1000, 1500},
	} {
		checkMatrix(t, f, obj(s), want, api.OK)
	}
	checkMatrix(t, store.File{}, none, geom.Unit(), api.OK)
	checkMatrix(t, store.File{}, api.Obj{Kind: api.Null, L: obj("[1 2 3 4 5 6]").L, N: 5}, geom.Unit(), api.OK)
	far := arr()
	for _, f := range []api.Fix{math.MaxInt, math.MinInt, api.MaxFix + 1, -api.MaxFix - 1, 1, -1} {
		far.L = append(far.L, api.Obj{Kind: api.Num, F: f, N: 9})
	}
	checkMatrix(t, f, far, api.Matrix{math.MaxInt, math.MinInt, api.MaxFix + 1, -api.MaxFix - 1, 1, -1}, api.OK)
}

func TestMatrixWrong(t *testing.T) {
	f := leading()
	for s, e := range map[string]api.Errno{
		"true": api.ErrForm, "7": api.ErrForm, "/A": api.ErrForm, "(a)": api.ErrForm, "<<>>": api.ErrForm, "1 0 R": api.ErrForm, "4 0 R": api.ErrForm, "<<>>stream [1 2 3 4 5 6]": api.ErrForm,
		"[]": api.ErrForm, "[null]": api.ErrForm, "[1 2 3 4]": api.ErrForm, "[1 2 3 4 5]": api.ErrForm, "[1 2 3 4 5 6 7]": api.ErrForm, "6 0 R": api.ErrForm, "[1 2 3 4 5 6 3 0 R]": api.ErrForm, "[3 0 R 2 3 4 5]": api.ErrForm,
		"[null 2 3 4 5 6]": api.ErrForm, "[1 2 3 4 5 null]": api.ErrForm, "[1 2 /A 4 5 6]": api.ErrForm, "[1 2 3 4 5 99 0 R]": api.ErrForm, "[1 2 3 4 4 0 R 6]": api.ErrForm, "[5 0 R 2 3 4 5 6]": api.ErrForm,
		"3 0 R": api.ErrCycle, "[3 0 R 2 3 4 5 6]": api.ErrCycle, "[1 2 3 4 5 3 0 R]": api.ErrCycle, "[1 2 3 4 3 0 R (6)]": api.ErrCycle, "[1 2 3 4 (5)3 0 R]": api.ErrForm, "[null 3 0 R 3 0 R 4 5 6]": api.ErrForm, "[3 0 R null null null null null]": api.ErrCycle,
	} {
		checkMatrix(t, f, obj(s), api.Matrix{}, e)
	}
	checkMatrix(t, f, api.Obj{Kind: 99, L: obj("[1 2 3 4 5 6]").L}, api.Matrix{}, api.ErrForm)
	checkMatrix(t, f, api.Obj{Kind: -1}, api.Matrix{}, api.ErrForm)
}

// Rows of Refs, up to where Resolve ends.
func TestNumbersRow(t *testing.T) {
	for refs, e := range map[int]api.Errno{62: api.OK, 63: api.OK, 64: api.ErrCycle, 65: api.ErrCycle} {
		for kind, s := range map[int]string{0: "5", 4: "[1 2 3 4]", 6: "[1 2 3 4 5 6]"} {
			f := store.File{L: []store.Numbered{{N: refs + 1, O: obj(s)}}}
			for n := 1; n <= refs; n++ {
				f.L = append(f.L, store.Numbered{N: n, O: ref(n + 1)})
			}
			r, m := api.Rect{X0: 1000, Y0: 2000, X1: 3000, Y1: 4000}, api.Matrix{1000, 2000, 3000, 4000, 5000, 6000}
			if e != api.OK {
				r, m = api.Rect{}, api.Matrix{}
			}
			switch kind {
			case 4:
				checkRect(t, f, ref(1), r, e)
			case 6:
				checkMatrix(t, f, ref(1), m, e)
			default:
				if e == api.OK {
					r, m = api.Rect{X0: 1000, Y0: 2000, X1: 3000, Y1: 5000}, api.Matrix{5000, 1000, 1000, 1000, 1000, 5000}
				}
				one := cos.Int(1)
				checkRect(t, f, arr(one, cos.Int(2), cos.Int(3), ref(1)), r, e)
				checkMatrix(t, f, arr(ref(1), one, one, one, one, ref(1)), m, e)
			}
		}
	}
}

// checkNum: is an object just the Num of a number?
func checkNum(t *testing.T, o api.Obj, f api.Fix) {
	t.Helper()
	want := api.Obj{Kind: api.Num, F: f}
	if r := int64(f) - int64(f)/1000*1000; r == 0 {
		want.N = 1
	}
	if !same(o, want) {
		t.Errorf("%d is told as %v, not %v", f, o, want)
	}
}

func TestRectOf(t *testing.T) {
	if o, want := RectOf(api.Rect{X0: 1000, Y0: 1500, X1: -2000, Y1: 0}), obj("[1 1.5 -2 0]"); !same(o, want) {
		t.Errorf("RectOf: %v, not %v", o, want)
	}
	for _, r := range someRects() {
		o := RectOf(r)
		if o.Kind != api.Arr || len(o.L) != 4 || o.N != 0 || o.F != 0 || o.S != "" || o.D != nil {
			t.Fatalf("RectOf(%v): %v", r, o)
		}
		for i, f := range []api.Fix{r.X0, r.Y0, r.X1, r.Y1} {
			checkNum(t, o.L[i], f)
		}
		// P10.5: in any file.
		checkRect(t, store.File{}, o, geom.Norm(r), api.OK)
		checkRect(t, leading(), o, geom.Norm(r), api.OK)
		for i := range o.L {
			o.L[i] = none
		}
		checkRect(t, store.File{}, RectOf(r), geom.Norm(r), api.OK)
	}
}

func TestMatrixOf(t *testing.T) {
	if o, want := MatrixOf(api.Matrix{1000, 500, -1000, 0, 1, 2000}), obj("[1 0.5 -1 0 0.001 2]"); !same(o, want) {
		t.Errorf("MatrixOf: %v, not %v", o, want)
	}
	for _, r := range someRects() {
		m := api.Matrix{r.X0, r.Y0, 1, 1000, r.X1, r.Y1}
		o := MatrixOf(m)
		if o.Kind != api.Arr || len(o.L) != 6 || o.N != 0 || o.F != 0 || o.S != "" || o.D != nil {
			t.Fatalf("MatrixOf(%v): %v", m, o)
		}
		for i, f := range m {
			checkNum(t, o.L[i], f)
		}
		checkMatrix(t, store.File{}, o, m, api.OK)
	}
	checkMatrix(t, store.File{}, MatrixOf(geom.Unit()), geom.Unit(), api.OK)
}
