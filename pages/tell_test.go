package pages

import (
	"fmt"
	"reflect"
	"slices"
	"strings"
	"testing"

	"inkstand/api"
	"inkstand/cos"
	"inkstand/store"
)

// How the tests ask.

var none api.Obj

// obj is the object that a text is; of a Stream the bytes stand behind "stream ".
func obj(s string) api.Obj {
	o, to, e := cos.Parse(s, 0)
	if e != api.OK {
		panic(s)
	}
	if data, ok := strings.CutPrefix(s[to:], "stream "); ok && o.Kind == api.Dict {
		return api.Obj{Kind: api.Stream, D: o.D, S: data}
	}
	if to != len(s) {
		panic(s)
	}
	return o
}

func ref(n int) api.Obj { return api.Obj{Kind: api.Ref, N: n} }

func arr(l ...api.Obj) api.Obj { return api.Obj{Kind: api.Arr, L: l} }

// refs is an Arr of Refs of the numbers from one to another, both among them.
func refs(from, to int) api.Obj {
	o := arr()
	for n := from; n <= to; n++ {
		o.L = append(o.L, ref(n))
	}
	return o
}

// file is the objects of texts, from the number 1 on, and a trailer whose Root is the first.
func file(l ...string) store.File {
	f := store.File{Trailer: obj("<</Root 1 0 R>>")}
	for i, s := range l {
		f.L = append(f.L, store.Numbered{N: i + 1, O: obj(s)})
	}
	return f
}

// tree is a file whose Root is told: the objects of texts follow it from the number 2 on, and the object 2 is the first node.
func tree(l ...string) store.File {
	return file(append([]string{"<</Pages 2 0 R>>"}, l...)...)
}

// deep is a copy of an object that shares nothing with it.
func deep(o api.Obj) api.Obj {
	if o.L != nil {
		l := make([]api.Obj, len(o.L))
		for i := range l {
			l[i] = deep(o.L[i])
		}
		o.L = l
	}
	if o.D != nil {
		d := make([]api.Entry, len(o.D))
		for i := range d {
			d[i] = api.Entry{Key: o.D[i].Key, V: deep(o.D[i].V)}
		}
		o.D = d
	}
	return o
}

func deepFile(f store.File) store.File {
	f.L = slices.Clone(f.L)
	for i := range f.L {
		f.L[i].O = deep(f.L[i].O)
	}
	f.Trailer = deep(f.Trailer)
	return f
}

// same: is all of two values the same, at any depth?
func same(a, b any) bool { return reflect.DeepEqual(a, b) }

// cut is what is told of a value, where it is long.
func cut(v any) string { return fmt.Sprintf("%.400s", fmt.Sprint(v)) }

// stays asks something twice, and that what is handed in stays as it is.
func stays(t *testing.T, what string, f store.File, o api.Obj, ask func()) {
	t.Helper()
	before, beforeO := deepFile(f), deep(o)
	for range 2 {
		ask()
	}
	if !same(f, before) || !same(o, beforeO) {
		t.Errorf("%s changed %s, %s", what, cut(before), cut(beforeO))
	}
}

func checkRect(t *testing.T, f store.File, o api.Obj, want api.Rect, e api.Errno) {
	t.Helper()
	stays(t, "Rect", f, o, func() {
		t.Helper()
		if r, err := Rect(f, o); r != want || err != e {
			t.Errorf("Rect(%s, %s): %v %v, not %v %v", cut(f), cut(o), r, err, want, e)
		}
	})
}

func checkMatrix(t *testing.T, f store.File, o api.Obj, want api.Matrix, e api.Errno) {
	t.Helper()
	stays(t, "Matrix", f, o, func() {
		t.Helper()
		if m, err := Matrix(f, o); m != want || err != e {
			t.Errorf("Matrix(%s, %s): %v %v, not %v %v", cut(f), cut(o), m, err, want, e)
		}
	})
}

func checkRoot(t *testing.T, f store.File, want api.Obj, e api.Errno) {
	t.Helper()
	stays(t, "Root", f, none, func() {
		t.Helper()
		if o, err := Root(f); !same(o, want) || err != e {
			t.Errorf("Root(%s): %s %v, not %s %v", cut(f), cut(o), err, cut(want), e)
		}
	})
}

// checkPages asks for pages in a new list each time, none of them twice, or for an error and none.
func checkPages(t *testing.T, f store.File, want []Page, e api.Errno) {
	t.Helper()
	stays(t, "Pages", f, none, func() {
		t.Helper()
		l, err := Pages(f)
		if len(l)+len(want) > 0 && !same(l, want) || err != e {
			t.Errorf("Pages(%s): %s %v, not %s %v", cut(f), cut(l), err, cut(want), e)
		}
		met := map[int]int{}
		for i := range l {
			if met[l[i].N]++; met[l[i].N] > 1 {
				t.Errorf("Pages(%s): page %d is told twice", cut(f), l[i].N)
			}
			l[i] = Page{N: -99}
		}
	})
}

// checkNumbers asks for pages of some numbers in that order, and whether all else is told as the document's words tell it.
func checkNumbers(t *testing.T, f store.File, want ...int) {
	t.Helper()
	l, e := Pages(f)
	numbers := []int{}
	for _, p := range l {
		numbers = append(numbers, p.N)
	}
	if e != api.OK || !slices.Equal(numbers, want) {
		t.Errorf("Pages(%s): pages %v %v, not %v", cut(f), numbers, e, want)
	}
	l, e = wantPages(f)
	checkPages(t, f, l, e)
}

// checkWrong asks for an error of pages, which the document's words tell too.
func checkWrong(t *testing.T, f store.File, e api.Errno) {
	t.Helper()
	checkPages(t, f, nil, e)
	if _, err := wantPages(f); err != e {
		t.Errorf("Pages(%s): the document's words tell %v, not %v", cut(f), err, e)
	}
}

// checkContents asks for bytes that are new each time, or for an error and no bytes.
func checkContents(t *testing.T, f store.File, p api.Obj, want string, e api.Errno) {
	t.Helper()
	stays(t, "Contents", f, p, func() {
		t.Helper()
		b, err := Contents(f, p)
		if string(b) != want || err != e || err != api.OK && b != nil {
			t.Errorf("Contents(%s, %s): %.90q %v, not %.90q %v", cut(f), cut(p), b, err, want, e)
		}
		for i := range b {
			b[i] ^= 255
		}
	})
}
