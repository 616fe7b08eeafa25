package cos

import (
	"fmt"
	"reflect"
	"testing"

	"inkstand/api"
)

// Objects as the tests tell them.

func whole(n int) api.Obj { return api.Obj{Kind: api.Num, N: 1, F: api.Fix(n) * 1000} }

func pointed(f api.Fix) api.Obj { return api.Obj{Kind: api.Num, F: f} }

func truth(n int) api.Obj { return api.Obj{Kind: api.Bool, N: n} }

func name(s string) api.Obj { return api.Obj{Kind: api.Name, S: s} }

func text(s string) api.Obj { return api.Obj{Kind: api.Str, S: s} }

func ref(n, g int) api.Obj { return api.Obj{Kind: api.Ref, N: n, F: api.Fix(g) * 1000} }

func arr(l ...api.Obj) api.Obj { return api.Obj{Kind: api.Arr, L: l} }

func entry(key string, v api.Obj) api.Entry { return api.Entry{Key: key, V: v} }

func dict(d ...api.Entry) api.Obj { return api.Obj{Kind: api.Dict, D: d} }

func stream(s string, d ...api.Entry) api.Obj { return api.Obj{Kind: api.Stream, S: s, D: d} }

var null api.Obj

// copied is an object that shares nothing with o. A list without elements is nil, as it is the same one.
func copied(o api.Obj) api.Obj {
	var l []api.Obj
	for _, k := range o.L {
		l = append(l, copied(k))
	}
	var d []api.Entry
	for _, e := range o.D {
		d = append(d, entry(e.Key, copied(e.V)))
	}
	o.L, o.D = l, d
	return o
}

// equal: are all fields the same, lists in their order?
func equal(a, b api.Obj) bool { return reflect.DeepEqual(copied(a), copied(b)) }

// short is an object as a text, cut where it is long.
func short(o api.Obj) string { return fmt.Sprintf("%.200s", fmt.Sprint(o)) }

func checkParse(t *testing.T, s string, at int, want api.Obj, to int, e api.Errno) {
	t.Helper()
	if o, n, err := Parse(s, at); !equal(o, want) || n != to || err != e {
		t.Errorf("Parse(%.80q, %d): %s %d %v, not %s %d %v", s, at, short(o), n, err, short(want), to, e)
	}
}

// checkRead asks that s is one object from its begin to its end, and that it is the same one where other things stand ahead of it and behind it.
func checkRead(t *testing.T, s string, want api.Obj) {
	t.Helper()
	checkParse(t, s, 0, want, len(s), api.OK)
	for _, white := range []string{" ", "\x00\t\n\f\r ", "% [1 0 R\n", "%\r"} {
		checkParse(t, white+s, 0, want, len(white+s), api.OK)
		checkParse(t, "]"+white+s+white+"]", 1, want, 1+len(white+s), api.OK)
	}
	for _, behind := range []string{" ", "]", ">>", "/A", "(", "<", "[", ")", "{", " 1a", " 99999999", " R", " x", "% "} {
		checkParse(t, s+behind, 0, want, len(s), api.OK)
	}
	checkParse(t, "[ "+s+" ]", 0, arr(want), len(s)+4, api.OK)
	checkParse(t, "["+s+"/B]", 0, arr(want, name("B")), len(s)+4, api.OK)
	if want.Kind == api.Null {
		checkParse(t, "<</A "+s+">>", 0, dict(), len(s)+7, api.OK)
		return
	}
	checkParse(t, "<</A "+s+">>", 0, dict(entry("A", want)), len(s)+7, api.OK)
	checkParse(t, "<</A "+s+"/B 1>>", 0, dict(entry("A", want), entry("B", whole(1))), len(s)+11, api.OK)
}

// checkWrong asks for an error, and nothing else, of s at its begin and behind something.
func checkWrong(t *testing.T, s string, e api.Errno) {
	t.Helper()
	checkParse(t, s, 0, null, 0, e)
	checkParse(t, "] %\n"+s, 1, null, 0, e)
}
