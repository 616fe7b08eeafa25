package store

import (
	"fmt"
	"reflect"
	"regexp"
	"slices"
	"strconv"
	"testing"

	"inkstand/api"
	"inkstand/cos"
)

// How the tests ask.

var none api.Obj

// marks are what laid takes for its own: "@a:" is a place, {a} tells it, {a+1} the one behind it; {end} is the length of all.
var marks = regexp.MustCompile(`@(\w+):|\{(\w+)([+-]\d+)?\}`)

const told = "%07d"

// laid is a text in which the places that it names are told, each in seven digits.
func laid(s string) string {
	places := map[string]int{}
	gone := 0
	for _, m := range marks.FindAllStringSubmatchIndex(s, -1) {
		if m[2] >= 0 {
			places[s[m[2]:m[3]]] = m[0] - gone
			gone += m[1] - m[0]
		} else {
			gone += m[1] - m[0] - 7
		}
	}
	places["end"] = len(s) - gone
	return marks.ReplaceAllStringFunc(s, func(m string) string {
		l := marks.FindStringSubmatch(m)
		if l[1] != "" {
			return ""
		}
		at, ok := places[l[2]]
		if !ok {
			panic("no place " + m)
		}
		more, _ := strconv.Atoi(l[3])
		return fmt.Sprintf(told, at+more)
	})
}

// obj is the object that a text is.
func obj(s string) api.Obj {
	o, to, e := cos.Parse(s, 0)
	if e != api.OK || to != len(s) {
		panic(s)
	}
	return o
}

func one(n, g int, s string) Numbered { return Numbered{N: n, G: g, O: obj(s)} }

func file(trailer string, l ...Numbered) File { return File{L: l, Trailer: obj(trailer)} }

func ref(n int) api.Obj { return api.Obj{Kind: api.Ref, N: n} }

func arr(l ...api.Obj) api.Obj { return api.Obj{Kind: api.Arr, L: l} }

// stream is a Stream whose entries are a Dict's.
func stream(dict, data string) api.Obj {
	return api.Obj{Kind: api.Stream, D: obj(dict).D, S: data}
}

// same: is all of two files the same, at any depth?
func same(a, b File) bool {
	if len(a.L) == 0 && len(b.L) == 0 {
		return reflect.DeepEqual(a.Trailer, b.Trailer)
	}
	return reflect.DeepEqual(a, b)
}

func sameObj(a, b api.Obj) bool { return reflect.DeepEqual(a, b) }

// deep is a copy of an object that shares nothing with it.
func deep(o api.Obj) api.Obj {
	if o.L != nil {
		l := make([]api.Obj, len(o.L))
		for i := range l {
			l[i] = deep(o.L[i])
		}
		o.L = l
	}
	if o.D != nil {
		d := make([]api.Entry, len(o.D))
		for i := range d {
			d[i] = api.Entry{Key: o.D[i].Key, V: deep(o.D[i].V)}
		}
		o.D = d
	}
	return o
}

func deepFile(f File) File {
	f.L = slices.Clone(f.L)
	for i := range f.L {
		f.L[i].O = deep(f.L[i].O)
	}
	f.Trailer = deep(f.Trailer)
	return f
}

// cut is what is told of a value, where it is long.
func cut(v any) string { return fmt.Sprintf("%.200s", fmt.Sprint(v)) }

// checkOpen asks for a file, or for an error and nothing else; and that the bytes stay, and say nothing any more behind the call.
func checkOpen(t *testing.T, s string, want File, e api.Errno) {
	t.Helper()
	b := []byte(s)
	f, err := Open(b)
	if string(b) != s {
		t.Errorf("Open(%.300q) changed its bytes", s)
	}
	for i := range b {
		b[i] = '#'
	}
	if !same(f, want) || err != e {
		t.Errorf("Open(%.300q): %s %v, not %s %v", s, cut(f), err, cut(want), e)
	}
}

func checkOpenWrong(t *testing.T, s string, e api.Errno) {
	t.Helper()
	checkOpen(t, s, File{}, e)
}

func checkFind(t *testing.T, f File, n int, want api.Obj) {
	t.Helper()
	if o := Find(f, n); !sameObj(o, want) {
		t.Errorf("Find(%s, %d): %s, not %s", cut(f), n, cut(o), cut(want))
	}
}

func checkResolve(t *testing.T, f File, o, want api.Obj, e api.Errno) {
	t.Helper()
	if v, err := Resolve(f, o); !sameObj(v, want) || err != e {
		t.Errorf("Resolve(%s, %s): %s %v, not %s %v", cut(f), cut(o), cut(v), err, cut(want), e)
	}
}

func checkEntry(t *testing.T, f File, o api.Obj, key string, want api.Obj, e api.Errno) {
	t.Helper()
	if v, err := Entry(f, o, key); !sameObj(v, want) || err != e {
		t.Errorf("Entry(%s, %s, %q): %s %v, not %s %v", cut(f), cut(o), key, cut(v), err, cut(want), e)
	}
}

// checkPut asks for a file, that the one that came in stays, and that the list that comes out is a new one.
func checkPut(t *testing.T, f File, n int, o api.Obj, want File, e api.Errno) {
	t.Helper()
	whole := slices.Clone(f.L[:cap(f.L)])
	before := deepFile(f)
	g, err := Put(f, n, o)
	if !same(g, want) || err != e {
		t.Errorf("Put(%s, %d, %s): %s %v, not %s %v", cut(f), n, cut(o), cut(g), err, cut(want), e)
	}
	for i := range g.L {
		g.L[i] = Numbered{N: -99, G: -99}
	}
	if !same(f, before) || !reflect.DeepEqual(f.L[:cap(f.L)], whole) {
		t.Errorf("Put(%s, %d, %s) made %s of it", cut(before), n, cut(o), cut(f))
	}
}

func checkFree(t *testing.T, f File, want int) {
	t.Helper()
	before := slices.Clone(f.L)
	if n := Free(f); n != want {
		t.Errorf("Free(%s): %d, not %d", cut(f), n, want)
	}
	if !reflect.DeepEqual(f.L, before) {
		t.Errorf("Free(%s) changed it", cut(f))
	}
}

// checkData asks for bytes that are new each time, or for an error and no bytes.
func checkData(t *testing.T, f File, o api.Obj, want string, e api.Errno) {
	t.Helper()
	before, beforeO := deepFile(f), deep(o)
	for range 2 {
		b, err := Data(f, o)
		if string(b) != want || err != e {
			t.Errorf("Data(%s, %s): %.90q %v, not %.90q %v", cut(f), cut(o), b, err, want, e)
		}
		for i := range b {
			b[i] ^= 255
		}
	}
	if !same(f, before) || !sameObj(o, beforeO) {
		t.Errorf("Data(%s, %s) changed it", cut(before), cut(beforeO))
	}
}
