package metric

import (
	"fmt"
	"reflect"
	"slices"
	"strings"
	"testing"

	"inkstand/api"
	"inkstand/cos"
	"inkstand/store"
)

// How the tests ask.

var none api.Obj

// obj is the object that a text is; of a Stream the bytes stand behind "stream ".
func obj(s string) api.Obj {
	o, to, e := cos.Parse(s, 0)
	if e != api.OK {
		panic(s)
	}
	if data, ok := strings.CutPrefix(s[to:], "stream "); ok && o.Kind == api.Dict {
		return api.Obj{Kind: api.Stream, D: o.D, S: data}
	}
	if to != len(s) {
		panic(s)
	}
	return o
}

func ref(n int) api.Obj { return api.Obj{Kind: api.Ref, N: n} }

func arr(l ...api.Obj) api.Obj { return api.Obj{Kind: api.Arr, L: l} }

// file is the objects of texts, from the number 1 on.
func file(l ...string) store.File {
	f := store.File{}
	for i, s := range l {
		f.L = append(f.L, store.Numbered{N: i + 1, O: obj(s)})
	}
	return f
}

// deep is a copy of an object that shares nothing with it.
func deep(o api.Obj) api.Obj {
	if o.L != nil {
		l := make([]api.Obj, len(o.L))
		for i := range l {
			l[i] = deep(o.L[i])
		}
		o.L = l
	}
	if o.D != nil {
		d := make([]api.Entry, len(o.D))
		for i := range d {
			d[i] = api.Entry{Key: o.D[i].Key, V: deep(o.D[i].V)}
		}
		o.D = d
	}
	return o
}

func deepFile(f store.File) store.File {
	f.L = slices.Clone(f.L)
	for i := range f.L {
		f.L[i].O = deep(f.L[i].O)
	}
	f.Trailer = deep(f.Trailer)
	return f
}

// sameFont: are two fonts the same? A list without elements may be nil or not.
func sameFont(a, b Font) bool {
	return a.First == b.First && a.Other == b.Other && slices.Equal(a.Widths, b.Widths)
}

// cut is what is told of a value, where it is long.
func cut(v any) string { return fmt.Sprintf("%.300s", fmt.Sprint(v)) }

// spoil makes other widths of an answer's: the next answer is not to know.
func spoil(t Font) {
	for i := range t.Widths {
		t.Widths[i] = -99
	}
}

func checkStandard(t *testing.T, name string, want Font, known bool) {
	t.Helper()
	for range 2 {
		font, ok := Standard(name)
		if !sameFont(font, want) || ok != known {
			t.Errorf("Standard(%.80q): %s %t, not %s %t", name, cut(font), ok, cut(want), known)
		}
		spoil(font)
	}
}

// checkOf asks for a font that is new each time, or for an error and no font; and that what is handed in stays.
func checkOf(t *testing.T, f store.File, o api.Obj, want Font, e api.Errno) {
	t.Helper()
	before, beforeO := deepFile(f), deep(o)
	for range 2 {
		font, err := Of(f, o)
		if !sameFont(font, want) || err != e {
			t.Errorf("Of(%s, %s): %s %v, not %s %v", cut(f), cut(o), cut(font), err, cut(want), e)
		}
		spoil(font)
	}
	if !reflect.DeepEqual(f, before) || !reflect.DeepEqual(o, beforeO) {
		t.Errorf("Of(%s, %s) changed it", cut(before), cut(beforeO))
	}
}

func checkOfWrong(t *testing.T, f store.File, o api.Obj, e api.Errno) {
	t.Helper()
	checkOf(t, f, o, Font{}, e)
}

func checkWidth(t *testing.T, font Font, s string, want int) {
	t.Helper()
	before := slices.Clone(font.Widths)
	if n := Width(font, s); n != want {
		t.Errorf("Width(%s, %.80q): %d, not %d", cut(font), s, n, want)
	}
	if !slices.Equal(font.Widths, before) {
		t.Errorf("Width(%s, %.80q) changed the font", cut(before), s)
	}
}

func checkAdvance(t *testing.T, font Font, s string, size, want api.Fix, e api.Errno) {
	t.Helper()
	before := slices.Clone(font.Widths)
	if n, err := Advance(font, s, size); n != want || err != e {
		t.Errorf("Advance(%s, %.80q, %d): %d %v, not %d %v", cut(font), s, size, n, err, want, e)
	}
	if !slices.Equal(font.Widths, before) {
		t.Errorf("Advance(%s, %.80q, %d) changed the font", cut(before), s, size)
	}
}

func checkDecode(t *testing.T, s, want string) {
	t.Helper()
	if u := Decode(s); u != want {
		t.Errorf("Decode(%.120q): %.120q, not %.120q", s, u, want)
	}
}

func checkBytes(t *testing.T, u, want string, may bool) {
	t.Helper()
	if s, ok := Bytes(u); s != want || ok != may {
		t.Errorf("Bytes(%.120q): %.120q %t, not %.120q %t", u, s, ok, want, may)
	}
}

func checkEncode(t *testing.T, u, want string) {
	t.Helper()
	if s := Encode(u); s != want {
		t.Errorf("Encode(%.120q): %.120q, not %.120q", u, s, want)
	}
}

// checkAgain: P13.6.
func checkAgain(t *testing.T, u string) {
	t.Helper()
	// A text of the characters that u is, bytes that are none of UTF-8 among them as U+FFFD.
	if again := Decode(Encode(u)); again != string([]rune(u)) {
		t.Errorf("Decode of Encode(%.120q): %.120q", u, again)
	}
}

// checkText asks all of one text.
func checkText(t *testing.T, s string) {
	t.Helper()
	checkDecode(t, s, wantDecode(s))
	want, may := wantBytes(s)
	checkBytes(t, s, want, may)
	checkEncode(t, s, wantEncode(s))
	checkAgain(t, s)
}
