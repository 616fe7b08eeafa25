package write

import (
	"fmt"
	"reflect"
	"strconv"
	"strings"
	"testing"

	"inkstand/api"
)

// Objects as the tests tell them.

var null api.Obj

func whole(n int) api.Obj { return api.Obj{Kind: api.Num, N: 1, F: api.Fix(n) * 1000} }

func pointed(f api.Fix) api.Obj { return api.Obj{Kind: api.Num, F: f} }

func truth(n int) api.Obj { return api.Obj{Kind: api.Bool, N: n} }

func name(s string) api.Obj { return api.Obj{Kind: api.Name, S: s} }

func text(s string) api.Obj { return api.Obj{Kind: api.Str, S: s} }

func ref(n, g int) api.Obj { return api.Obj{Kind: api.Ref, N: n, F: api.Fix(g) * 1000} }

func arr(l ...api.Obj) api.Obj { return api.Obj{Kind: api.Arr, L: l} }

func entry(key string, v api.Obj) api.Entry { return api.Entry{Key: key, V: v} }

func dict(d ...api.Entry) api.Obj { return api.Obj{Kind: api.Dict, D: d} }

func stream(s string, d ...api.Entry) api.Obj { return api.Obj{Kind: api.Stream, S: s, D: d} }

// objects are so many whole numbers.
func objects(n int) []api.Obj {
	l := make([]api.Obj, n)
	for i := range l {
		l[i] = whole(i)
	}
	return l
}

// entries are so many entries of keys of their own, none of which is Length.
func entries(n int) []api.Entry {
	d := make([]api.Entry, n)
	for i := range d {
		d[i] = entry("K"+strconv.Itoa(i), whole(i))
	}
	return d
}

// nested is an object in so many others, by turns as the kinds of a list tell.
func nested(n int, inner api.Obj, kinds ...int) api.Obj {
	for i := range n {
		if kinds[i%len(kinds)] == api.Arr {
			inner = arr(inner)
		} else {
			inner = dict(entry("A", inner))
		}
	}
	return inner
}

// filled is an object whose fields that its kind does not have are such as would be wrong, if they were looked at.
func filled(o api.Obj) api.Obj {
	f := api.Obj{Kind: o.Kind, N: -7, F: -1<<40 - 1, S: "\x00(", L: []api.Obj{{Kind: 9}, stream("s")}, D: []api.Entry{entry("A", null), entry("A", null)}}
	switch o.Kind {
	case api.Bool:
		f.N = o.N
	case api.Num, api.Ref:
		f.N, f.F = o.N, o.F
	case api.Name, api.Str:
		f.S = o.S
	case api.Arr:
		f.L = o.L
	case api.Dict:
		f.D = o.D
	case api.Stream:
		f.D, f.S = o.D, o.S
	}
	return f
}

// allBytes is a text of each byte once.
func allBytes() string {
	out := make([]byte, 256)
	for i := range out {
		out[i] = byte(i)
	}
	return string(out)
}

// copied is an object that shares nothing with o. A list without elements is nil, as it is the same one.
func copied(o api.Obj) api.Obj {
	var l []api.Obj
	for _, k := range o.L {
		l = append(l, copied(k))
	}
	var d []api.Entry
	for _, e := range o.D {
		d = append(d, entry(e.Key, copied(e.V)))
	}
	o.L, o.D = l, d
	return o
}

// equal: are all fields the same, lists in their order?
func equal(a, b api.Obj) bool { return reflect.DeepEqual(copied(a), copied(b)) }

// short is an object as Go tells it, cut where it is long.
func short(o api.Obj) string { return fmt.Sprintf("%.200s", fmt.Sprint(o)) }

// checkTold asks for a text, and that nothing was changed.
func checkTold(t *testing.T, o api.Obj, want string, e api.Errno) {
	t.Helper()
	before := copied(o)
	if s, err := Object(o); s != want || err != e {
		t.Errorf("Object(%s): %.200q %v, not %.200q %v", short(o), s, err, want, e)
	}
	if !equal(o, before) {
		t.Errorf("Object changed %s into %s", short(before), short(o))
	}
}

// checkNumbered asks for a numbered object's text, and that nothing was changed.
func checkNumbered(t *testing.T, n, g int, o api.Obj, want string, e api.Errno) {
	t.Helper()
	before := copied(o)
	if s, err := Indirect(n, g, o); s != want || err != e {
		t.Errorf("Indirect(%d, %d, %s): %.200q %v, not %.200q %v", n, g, short(o), s, err, want, e)
	}
	if !equal(o, before) {
		t.Errorf("Indirect changed %s into %s", short(before), short(o))
	}
}

// checkOnly asks what Sane answers of one object, and that an error is Object's and Indirect's too, without a text.
func checkOnly(t *testing.T, o api.Obj, e api.Errno) {
	t.Helper()
	before := copied(o)
	if got := Sane(o); got != e {
		t.Errorf("Sane(%s): %v, not %v", short(o), got, e)
	}
	if !equal(o, before) {
		t.Errorf("Sane changed %s into %s", short(before), short(o))
	}
	if e != api.OK {
		checkTold(t, o, "", e)
		checkNumbered(t, 1, 0, o, "", e)
		return
	}
	if s, err := Object(o); o.Kind != api.Stream && (s == "" || err != api.OK) {
		t.Errorf("Object(%s): %q %v", short(o), s, err)
	}
	if s, err := Indirect(1, 0, o); len(o.S) < 1<<20 && len(o.D) < 1024 && (s == "" || err != api.OK) {
		t.Errorf("Indirect(1, 0, %s): %q %v", short(o), s, err)
	}
}

// checkSane asks of an object alone, and where it stands in others: an error is the same there, if nothing else is wrong.
func checkSane(t *testing.T, o api.Obj, e api.Errno) {
	t.Helper()
	checkOnly(t, o, e)
	if o.Kind == api.Stream {
		e = api.ErrArg
	}
	checkOnly(t, arr(o), e)
	checkOnly(t, arr(null, arr(whole(1), o), truth(2)), firstOf(e, api.ErrArg))
	checkOnly(t, arr(pointed(1<<40), o), api.ErrRange)
	if o.Kind == api.Null {
		e = api.ErrArg
	}
	checkOnly(t, dict(entry("K", o)), e)
	checkOnly(t, stream(strings.Repeat("s", 9), entry("K", o)), e)
	checkOnly(t, dict(entry("K", whole(1)), entry("", dict(entry("K", o))), entry("L", ref(1<<40, 0))), firstOf(e, api.ErrRange))
}

// firstOf is the first error of a list.
func firstOf(l ...api.Errno) api.Errno {
	for _, e := range l {
		if e != api.OK {
			return e
		}
	}
	return api.OK
}
