package ops

import (
	"fmt"
	"reflect"
	"strings"
	"testing"

	"inkstand/api"
)

// Objects and operators as the tests tell them, and how they ask.

var null api.Obj

func whole(n int) api.Obj { return api.Obj{Kind: api.Num, N: 1, F: api.Fix(n) * 1000} }

func pointed(f api.Fix) api.Obj { return api.Obj{Kind: api.Num, F: f} }

func truth(n int) api.Obj { return api.Obj{Kind: api.Bool, N: n} }

func name(s string) api.Obj { return api.Obj{Kind: api.Name, S: s} }

func text(s string) api.Obj { return api.Obj{Kind: api.Str, S: s} }

func ref(n, g int) api.Obj { return api.Obj{Kind: api.Ref, N: n, F: api.Fix(g) * 1000} }

func arr(l ...api.Obj) api.Obj { return api.Obj{Kind: api.Arr, L: l} }

func entry(key string, v api.Obj) api.Entry { return api.Entry{Key: key, V: v} }

func dict(d ...api.Entry) api.Obj { return api.Obj{Kind: api.Dict, D: d} }

func stream(s string, d ...api.Entry) api.Obj { return api.Obj{Kind: api.Stream, S: s, D: d} }

func op(name string, l ...api.Obj) Op { return Op{Name: name, Args: l} }

// named are operators without objects, by their names with blanks between.
func named(names string) []Op {
	var l []Op
	for _, s := range strings.Fields(names) {
		l = append(l, op(s))
	}
	return l
}

// objects are so many whole numbers.
func objects(n int) []api.Obj {
	l := make([]api.Obj, n)
	for i := range l {
		l[i] = whole(i)
	}
	return l
}

// nested is an object in so many others, by turns Arrs and Dicts.
func nested(n int, inner api.Obj) api.Obj {
	for i := range n {
		if i%2 == 0 {
			inner = arr(inner)
		} else {
			inner = dict(entry("A", inner))
		}
	}
	return inner
}

// copied is an object that shares nothing with o. A list without elements is nil, as it is the same one.
func copied(o api.Obj) api.Obj {
	o.L = copiedList(o.L)
	var d []api.Entry
	for _, e := range o.D {
		d = append(d, entry(e.Key, copied(e.V)))
	}
	o.D = d
	return o
}

func copiedList(l []api.Obj) []api.Obj {
	var out []api.Obj
	for _, o := range l {
		out = append(out, copied(o))
	}
	return out
}

func copiedOps(l []Op) []Op {
	var out []Op
	for _, o := range l {
		out = append(out, Op{Name: o.Name, Args: copiedList(o.Args)})
	}
	return out
}

// equal: are all fields the same, lists in their order?
func equal(a, b []Op) bool { return reflect.DeepEqual(copiedOps(a), copiedOps(b)) }

// short is a thing as Go tells it, cut where it is long.
func short(v any) string { return fmt.Sprintf("%.200s", fmt.Sprint(v)) }

func checkParse(t *testing.T, s string, want []Op, e api.Errno) {
	t.Helper()
	for range 2 {
		l, err := Parse(s)
		if !equal(l, want) || err != e {
			t.Errorf("Parse(%.120q of %d): %s %v, not %s %v", s, len(s), short(l), err, short(want), e)
			return
		}
		if e != api.OK && l != nil {
			t.Errorf("Parse(%.120q): a list beside %v", s, e)
		}
		// What is answered is new each time.
		for i := range l {
			l[i].Name = ""
			clear(l[i].Args)
		}
	}
}

func checkWrite(t *testing.T, l []Op, want string, e api.Errno) {
	t.Helper()
	was := copiedOps(l)
	for range 2 {
		if s, err := Write(l); s != want || err != e {
			t.Errorf("Write(%s): %.120q %v, not %.120q %v", short(l), s, err, want, e)
			return
		}
	}
	if !equal(l, was) {
		t.Errorf("Write changed %s into %s", short(was), short(l))
	}
}

func checkBalanced(t *testing.T, l []Op, want bool) {
	t.Helper()
	was := copiedOps(l)
	for range 2 {
		if got := Balanced(l); got != want {
			t.Errorf("Balanced(%s): %v", short(l), got)
			return
		}
	}
	if !equal(l, was) {
		t.Errorf("Balanced changed %s into %s", short(was), short(l))
	}
}

func checkWrap(t *testing.T, l, want []Op) {
	t.Helper()
	// Room behind the list, which Wrap is not to write into.
	roomy := append(make([]Op, 0, len(l)+9), l...)
	behind := roomy[len(l):cap(roomy)]
	was := copiedOps(l)
	for range 2 {
		got := Wrap(roomy)
		if !equal(got, want) {
			t.Errorf("Wrap(%s): %s, not %s", short(l), short(got), short(want))
			return
		}
		clear(got)
	}
	if !equal(roomy, was) || !equal(behind, make([]Op, len(behind))) {
		t.Errorf("Wrap changed %s into %s", short(was), short(roomy))
	}
}
