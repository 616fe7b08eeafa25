package store

import (
	"math/rand"
	"testing"

	"inkstand/api"
)

// P9.5

// checkAgain asks that what was put is found, and nothing else changes.
func checkAgain(t *testing.T, f File, n int, o api.Obj) {
	t.Helper()
	g, e := Put(f, n, o)
	if e != api.OK {
		t.Errorf("Put(%s, %d, %s): %v", cut(f), n, cut(o), e)
		return
	}
	checkFind(t, g, n, o)
	if !sameObj(g.Trailer, f.Trailer) {
		t.Errorf("Put(%s, %d, %s) made the trailer %s", cut(f), n, cut(o), cut(g.Trailer))
	}
	for other := -3; other < 20; other++ {
		if other != n {
			checkFind(t, g, other, Find(f, other))
		}
	}
	for _, x := range f.L {
		if x.N != n {
			checkFind(t, g, x.N, Find(f, x.N))
		}
	}
	// The objects that were there are still, in order, and at most one more.
	was, i := place(f.L, n) >= 0, 0
	for _, x := range g.L {
		switch {
		case i < len(f.L) && x.N == f.L[i].N && x.G == f.L[i].G:
			i++
		case was || x.N != n || x.G != 0:
			t.Errorf("Put(%s, %d, %s): %s", cut(f), n, cut(o), cut(g))
		}
	}
	if i != len(f.L) || was && len(g.L) != i || !was && len(g.L) != i+1 {
		t.Errorf("Put(%s, %d, %s): %s", cut(f), n, cut(o), cut(g))
	}
	// A Ref of it leads to where it does, if that isn't the object itself.
	if o.Kind != api.Ref {
		checkResolve(t, g, ref(n), o, api.OK)
	}
	// Again, and back.
	checkPut(t, g, n, o, g, api.OK)
	if was {
		checkPut(t, g, n, Find(f, n), f, api.OK)
	}
}

func TestAgain(t *testing.T) {
	files := []File{{}, wholeFile(), row(5, "(a)"), file("<</A 1>>", one(5, 1, "(a)"), one(3, 2, "(b)"), one(9, 3, "(c)"), one(3, 4, "(d)"), one(-2, 0, "7"), one(0, 3, "8"))}
	for _, f := range files {
		for _, n := range []int{1, 2, 3, 4, 5, 6, 8, 9, 10, 4094, 4095} {
			for _, o := range []api.Obj{none, obj("(x)"), obj("[3 0 R]"), ref(3), ref(n), stream("<</A 1>>", "x")} {
				checkAgain(t, f, n, o)
			}
		}
	}
}

// Objects that are put where Free tells stand one behind the other, till there is no room.
func TestAgainFree(t *testing.T) {
	f := file("<<>>", one(3, 1, "(c)"), one(7, 2, "(g)"))
	for n := 1; n < 4096; n++ {
		if n == 3 || n == 7 {
			continue
		}
		if free := Free(f); free != n {
			t.Fatal(free, n)
		}
		var e api.Errno
		if f, e = Put(f, n, api.Obj{Kind: api.Num, N: 1, F: api.Fix(n)}); e != api.OK {
			t.Fatal(n, e)
		}
	}
	if len(f.L) != 4095 || Free(f) != 4096 {
		t.Fatal(len(f.L), Free(f))
	}
	for i, x := range f.L {
		switch {
		case x.N != i+1:
			t.Fatal(i, x)
		case x.N == 3 && (x.G != 1 || x.O.S != "c"), x.N == 7 && (x.G != 2 || x.O.S != "g"):
			t.Error(x)
		case x.N != 3 && x.N != 7 && (x.G != 0 || x.O.F != api.Fix(x.N)):
			t.Error(x)
		}
	}
	checkPut(t, f, Free(f), none, File{}, api.ErrArg)
}

// In whatever order objects are put, the file is the same, and its numbers rise.
func TestAgainOrder(t *testing.T) {
	r := rand.New(rand.NewSource(7))
	want := File{Trailer: obj("<<>>")}
	for n := 1; n <= 60; n++ {
		want.L = append(want.L, Numbered{N: n * 60, O: ref(n)})
	}
	for range 50 {
		f := File{Trailer: obj("<<>>")}
		for _, i := range r.Perm(60) {
			x := want.L[i]
			f, _ = Put(f, x.N, none)
			f, _ = Put(f, x.N, x.O)
		}
		if !same(f, want) {
			t.Fatal(cut(f))
		}
	}
}

// What was opened and put is found beside what was opened.
func TestAgainOpened(t *testing.T) {
	f, e := Open([]byte(laid(whole)))
	if e != api.OK {
		t.Fatal(e)
	}
	n := Free(f)
	g, e := Put(f, n, obj("(new)"))
	if n != 3 || e != api.OK || !same(f, wholeFile()) {
		t.Fatal(n, e, f)
	}
	checkFind(t, g, 3, obj("(new)"))
	checkEntry(t, g, ref(1), "A", obj("(b)"), api.OK)
	g, _ = Put(g, 2, ref(3))
	checkEntry(t, g, ref(1), "A", obj("(new)"), api.OK)
	checkEntry(t, f, ref(1), "A", obj("(b)"), api.OK)
	if g.L[1].G != 5 {
		t.Error(g)
	}
}
