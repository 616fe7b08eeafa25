package pages

import (
	"math"
	"math/rand"
	"slices"
	"testing"

	"inkstand/api"
	"inkstand/cos"
	"inkstand/geom"
	"inkstand/store"
)

// Made files: what is answered is held against the document's words (want_test.go).

// asked is the errors with which a file's pages, and an object as each other thing, are told.
type asked struct{ pages, rect, matrix, contents api.Errno }

// checkFile asks all of a file, and of one object, that is asked of these.
func checkFile(t *testing.T, f store.File, o api.Obj) asked {
	t.Helper()
	var met asked
	root, e := wantRoot(f)
	checkRoot(t, f, root, e)
	l, e := wantPages(f)
	checkPages(t, f, l, e)
	met.pages = e
	r, e := wantRect(f, o)
	checkRect(t, f, o, r, e)
	met.rect = e
	m, e := wantMatrix(f, o)
	checkMatrix(t, f, o, m, e)
	met.matrix = e
	s, e := wantContents(f, o)
	checkContents(t, f, o, s, e)
	met.contents = e
	for _, p := range l {
		s, e := wantContents(f, p.O)
		checkContents(t, f, p.O, s, e)
		if p.Box != geom.Norm(p.Box) || p.Res.Kind != api.Dict || p.Turn < 0 || p.Turn > 3 {
			t.Errorf("Pages(%s): a page %v", cut(f), cut(p))
		}
	}
	return met
}

// All files of three nodes, each of them one of many things.
func TestAllSmallFiles(t *testing.T) {
	texts := []string{"<<>>", "<</MediaBox 7>>", "<</Kids[]>>", "<</Kids[2 0 R]>>", "<</Kids[3 0 R]>>", "<</Kids[4 0 R]>>", "<</Kids[3 0 R 4 0 R]/Rotate 90>>", "<</Kids[4 0 R 3 0 R]/MediaBox[1 2 3 4]>>", "<</Kids[3 0 R 3 0 R]>>", "<</Kids[4 0 R 5]/Resources 4 0 R>>", "<</Kids 3 0 R/Rotate 4 0 R>>", "[4 0 R]", "[]", "3 0 R", "4 0 R", "2 0 R", "180", "null"}
	var l []api.Obj
	for _, s := range texts {
		l = append(l, obj(s))
	}
	met := map[api.Errno]int{}
	f := tree("null", "null", "null")
	for _, a := range l {
		for _, b := range l {
			for _, c := range l {
				f.L[1].O, f.L[2].O, f.L[3].O = a, b, c
				want, e := wantPages(f)
				checkPages(t, f, want, e)
				met[e]++
			}
		}
	}
	for e, least := range map[api.Errno]int{api.OK: 500, api.ErrType: 500, api.ErrCycle: 500, api.ErrForm: 100} {
		if met[e] < least {
			t.Error("too few of a kind:", met)
		}
	}
}

func pick(r *rand.Rand, l ...string) api.Obj { return obj(l[r.Intn(len(l))]) }

// someNumber is one that a Ref may have, in a file of so many objects.
func someNumber(r *rand.Rand, numbers int) api.Obj { return ref(1 + r.Intn(numbers+1)) }

// someArr is a box or a matrix, most often a right one.
func someArr(r *rand.Rand, count, numbers int) api.Obj {
	o := arr()
	for range count {
		v := pick(r, "1", "2.5", "-3", "0", "612", "-0.001")
		if r.Intn(12) == 0 {
			v = someNumber(r, numbers)
		}
		if r.Intn(40) == 0 {
			v = pick(r, "/A", "null", "(a)", "[]")
		}
		o.L = append(o.L, v)
	}
	if r.Intn(30) == 0 {
		o.L = o.L[r.Intn(count):]
	}
	return o
}

// someStream is one that may be pressed, or seem so.
func someStream(r *rand.Rand) api.Obj {
	switch r.Intn(8) {
	case 0:
		return pressed("q Q")
	case 1:
		return pick(r, "<</Filter/Fl>>stream x", "<</Filter/X>>stream x", "<</DecodeParms<<>>>>stream x")
	}
	return pick(r, "<<>>stream a", "<<>>stream ", "<</Filter[]>>stream b c", "<<>>stream \n")
}

// someEntry is what a node has of a key.
func someEntry(r *rand.Rand, key string, numbers int) api.Obj {
	switch {
	case r.Intn(6) == 0:
		return someNumber(r, numbers)
	case r.Intn(60) == 0:
		return pick(r, "/A", "7", "[]", "<<>>", "(a)")
	}
	switch key {
	case "MediaBox":
		return someArr(r, 4, numbers)
	case "Rotate":
		return pick(r, "0", "90", "180", "270", "-90", "450", "45", "90.0", "0.09")
	case "Contents":
		if r.Intn(3) == 0 {
			return someStream(r)
		}
		o := arr()
		for range r.Intn(4) {
			o.L = append(o.L, []api.Obj{someStream(r), someNumber(r, numbers)}[r.Intn(12)/11])
		}
		return o
	}
	return pick(r, "<</A 1>>", "<<>>", "<</B 2>>")
}

// someNode is a node whose kids are told.
func someNode(r *rand.Rand, kids []api.Obj, numbers int) api.Obj {
	o := obj("<<>>")
	for _, key := range []string{"MediaBox", "Resources", "Rotate", "Contents"} {
		if r.Intn(3) == 0 {
			o.D = append(o.D, api.Entry{Key: key, V: someEntry(r, key, numbers)})
		}
	}
	if kids != nil {
		o.D = append(o.D, api.Entry{Key: "Kids", V: arr(kids...)})
	}
	if r.Intn(80) == 0 {
		o.D = append(o.D, api.Entry{Key: "Kids", V: someEntry(r, "Kids", numbers)})
	}
	r.Shuffle(len(o.D), func(a, b int) { o.D[a], o.D[b] = o.D[b], o.D[a] })
	return o
}

// someFile is a file of a tree, of a depth that differs, most often a right one; behind it stand other objects.
func someFile(r *rand.Rand, nodes int) store.File {
	numbers := nodes + 8
	kids := make([][]api.Obj, nodes)
	far := 1 + r.Intn(5)
	if r.Intn(6) == 0 {
		far = 1
	}
	for n := 1; n < nodes; n++ {
		ahead := max(0, n-1-r.Intn(far))
		kids[ahead] = append(kids[ahead], ref(n+2))
		if r.Intn(60) == 0 {
			kids[ahead] = append(kids[ahead], someNumber(r, numbers))
		}
	}
	f := tree()
	for n := range nodes {
		if kids[n] == nil && r.Intn(6) == 0 {
			kids[n] = []api.Obj{}
		}
		f.L = append(f.L, store.Numbered{N: n + 2, O: someNode(r, kids[n], numbers)})
	}
	for n := nodes + 2; n <= numbers; n++ {
		o := pick(r, "7", "90", "/A", "null", "<</A 1>>", "[1 2 3 4]", "[1 0 0 1 5 6]", "<<>>stream a")
		if r.Intn(4) == 0 {
			o = someNumber(r, numbers)
		}
		f.L = append(f.L, store.Numbered{N: n, O: o})
	}
	if r.Intn(60) == 0 {
		f.L[r.Intn(len(f.L))].O = someNumber(r, numbers)
	}
	if r.Intn(2) == 0 {
		r.Shuffle(len(f.L), func(a, b int) { f.L[a], f.L[b] = f.L[b], f.L[a] })
	}
	return f
}

func TestManyFiles(t *testing.T) {
	r := rand.New(rand.NewSource(10))
	met := map[string]map[api.Errno]int{"pages": {}, "rect": {}, "matrix": {}, "contents": {}}
	for i := range 20000 {
		nodes := 1 + r.Intn(12)
		if i%20 == 0 {
			nodes = 60 + r.Intn(30)
		}
		f := someFile(r, nodes)
		o := []api.Obj{someArr(r, 4, len(f.L)), someArr(r, 6, len(f.L)), someNode(r, nil, len(f.L)), someNumber(r, len(f.L))}[i%4]
		e := checkFile(t, f, o)
		met["pages"][e.pages]++
		met["rect"][e.rect]++
		met["matrix"][e.matrix]++
		met["contents"][e.contents]++
	}
	for _, x := range []struct {
		what  string
		e     api.Errno
		least int
	}{
		{"pages", api.OK, 4000}, {"pages", api.ErrForm, 1000}, {"pages", api.ErrType, 300}, {"pages", api.ErrCycle, 300}, {"pages", api.ErrDeep, 30},
		{"rect", api.OK, 2000}, {"rect", api.ErrForm, 1000}, {"rect", api.ErrCycle, 40},
		{"matrix", api.OK, 2000}, {"matrix", api.ErrForm, 1000}, {"matrix", api.ErrCycle, 40},
		{"contents", api.OK, 4000}, {"contents", api.ErrType, 50}, {"contents", api.ErrFilter, 50}, {"contents", api.ErrShort, 10}, {"contents", api.ErrCycle, 20},
	} {
		if met[x.what][x.e] < x.least {
			t.Error("too few of a kind:", x, met[x.what])
		}
	}
}

// Files of objects by chance: no tree at all, most often.
func TestManyObjects(t *testing.T) {
	r := rand.New(rand.NewSource(14))
	met := map[api.Errno]int{}
	for range 20000 {
		numbers := 1 + r.Intn(6)
		f := store.File{Trailer: someObject(r, 2, numbers)}
		if r.Intn(2) == 0 {
			f.Trailer = obj("<</Root<</Pages 1 0 R>>>>")
		}
		for range numbers {
			f.L = append(f.L, store.Numbered{N: r.Intn(numbers + 1), G: r.Intn(3), O: someObject(r, 2, numbers)})
		}
		met[checkFile(t, f, someObject(r, 2, numbers)).pages]++
	}
	for e, least := range map[api.Errno]int{api.OK: 400, api.ErrForm: 100, api.ErrType: 4000, api.ErrCycle: 100} {
		if met[e] < least {
			t.Error("too few of a kind:", met)
		}
	}
}

// someObject is any object, with fields that its kind does not have, too.
func someObject(r *rand.Rand, deep, numbers int) api.Obj {
	o := api.Obj{Kind: r.Intn(9), N: r.Intn(numbers + 2), F: api.Fix(r.Intn(9)-4) * 45000, S: "x"}
	if r.Intn(2) == 0 {
		o.Kind = []int{api.Dict, api.Dict, api.Ref, api.Arr}[r.Intn(4)]
	}
	switch r.Intn(30) {
	case 0:
		o.Kind = []int{-1, 9, math.MaxInt, math.MinInt}[r.Intn(4)]
	case 1:
		o.F = []api.Fix{math.MaxInt, math.MinInt, api.MaxFix + 1, -1}[r.Intn(4)]
	case 2:
		o.N = []int{-1, math.MaxInt, math.MinInt}[r.Intn(3)]
	}
	if deep > 0 {
		keys := []string{"Kids", "Kids", "Pages", "Root", "MediaBox", "Resources", "Rotate", "Contents", "A"}
		for range r.Intn(4) {
			o.D = append(o.D, api.Entry{Key: keys[r.Intn(len(keys))], V: someObject(r, deep-1, numbers)})
		}
		for range []int{0, 1, 2, 4, 4, 6}[r.Intn(6)] {
			o.L = append(o.L, someObject(r, deep-1, numbers))
		}
	}
	return o
}

// A file's objects in another order are the same file: each of its numbers is found as it was.
func TestOtherOrder(t *testing.T) {
	r := rand.New(rand.NewSource(15))
	for range 2000 {
		f := someFile(r, 1+r.Intn(10))
		l, e := Pages(f)
		g := store.File{L: slices.Clone(f.L), Trailer: f.Trailer}
		r.Shuffle(len(g.L), func(a, b int) { g.L[a], g.L[b] = g.L[b], g.L[a] })
		checkPages(t, g, l, e)
	}
}

// parsed is the objects of a text, as long as there are such.
func parsed(s string) []api.Obj {
	var l []api.Obj
	for at := 0; len(l) < 200; {
		o, to, e := cos.Parse(s, at)
		if e != api.OK {
			break
		}
		l = append(l, o)
		at = to
	}
	return l
}

func FuzzPages(f *testing.F) {
	f.Add("<</Pages 2 0 R>><</Kids[3 0 R 4 0 R]/MediaBox[1 2 3 4]>><</Rotate 90/Contents 5 0 R>><</Resources<</A 1>>>>(q Q)", 3, 90000)
	f.Add("<</Pages 2 0 R>><</Kids[3 0 R 2 0 R]>><</MediaBox 4 0 R>>[1 2 3 5 0 R]7.5", 4, -1)
	f.Add("<</Pages 2 0 R>><</Kids 3 0 R>>[4 0 R 5 0 R]<</Rotate -90>>5 0 R", 2, 0)
	f.Fuzz(func(t *testing.T, s string, n, num int) {
		l := parsed(s)
		file := store.File{Trailer: obj("<</Root 1 0 R>>")}
		for i, o := range l {
			if o.Kind == api.Str {
				// Texts stand for Streams' bytes, which cos.Parse doesn't tell.
				o = api.Obj{Kind: api.Stream, S: o.S}
			}
			file.L = append(file.L, store.Numbered{N: i + 1, O: o})
		}
		checkFile(t, file, ref(n))
		for _, x := range file.L {
			checkFile(t, file, x.O)
		}
		file.Trailer = ref(n)
		checkFile(t, file, api.Obj{Kind: api.Num, F: api.Fix(num)})
		box := api.Rect{X0: api.Fix(num), Y0: api.Fix(n), X1: 5, Y1: api.Fix(n - num)}
		checkRect(t, file, RectOf(box), geom.Norm(box), api.OK)
		m := api.Matrix{api.Fix(n), 0, api.Fix(num), 1, 2, 1000}
		checkMatrix(t, file, MatrixOf(m), m, api.OK)
	})
}
