package write

import (
	"math"
	"math/rand"
	"strings"
	"testing"

	"inkstand/api"
	"inkstand/cos"
)

// P5.4, and made objects, whose answers are held against the document's words (want_test.go).

// plain is an object with the fields alone that its kind has, and so is what stands in it.
func plain(o api.Obj) api.Obj {
	p := api.Obj{Kind: o.Kind}
	switch o.Kind {
	case api.Bool:
		p.N = o.N
	case api.Num, api.Ref:
		p.N, p.F = o.N, o.F
	case api.Name, api.Str:
		p.S = o.S
	case api.Arr:
		for _, k := range o.L {
			p.L = append(p.L, plain(k))
		}
	case api.Dict, api.Stream:
		for _, e := range o.D {
			p.D = append(p.D, entry(e.Key, plain(e.V)))
		}
	}
	if o.Kind == api.Stream {
		p.S = o.S
	}
	return p
}

// checkRead asks that what is written is read as it was, wherever it stands.
func checkRead(t *testing.T, o api.Obj) {
	t.Helper()
	s, e := Object(o)
	if e != api.OK {
		t.Errorf("Object(%s): %v", short(o), e)
		return
	}
	for _, around := range [][2]string{{"", ""}, {"x ", " R"}, {"[", "]"}, {"<</A ", ">>"}, {"%\n", "\nendobj"}, {"", "/A"}} {
		from := len(around[0])
		got, to, e := cos.Parse(around[0]+s+around[1], from)
		if !equal(got, plain(o)) || to != from+len(s) || e != api.OK {
			t.Errorf("Parse(%.200q): %s %d %v, not %s", s, short(got), to, e, short(o))
		}
	}
	// Written again it is the same text.
	again, _, _ := cos.Parse(s, 0)
	checkTold(t, again, s, api.OK)
}

// checkReadNumbered asks that of a numbered object; a Stream has its Length then.
func checkReadNumbered(t *testing.T, n, g int, o api.Obj) {
	t.Helper()
	s, e := Indirect(n, g, o)
	if e != api.OK {
		t.Errorf("Indirect(%d, %d, %s): %v", n, g, short(o), e)
		return
	}
	want := plain(o)
	if o.Kind == api.Stream {
		want.D = withLength(want)
	}
	for _, around := range [][2]string{{"", ""}, {"x ", "x"}, {s, s}, {"%PDF-1.7\n", "xref"}} {
		from := len(around[0])
		gotN, gotG, got, to, e := cos.Indirect(around[0]+s+around[1], from)
		if gotN != n || gotG != g || !equal(got, want) || to != from+len(s)-1 || e != api.OK {
			t.Errorf("Indirect(%.200q): %d %d %s %d %v, not %s", s, gotN, gotG, short(got), to, e, short(want))
		}
	}
}

func TestReadAsItWas(t *testing.T) {
	l := []api.Obj{null, truth(0), truth(1), whole(0), whole(-7), whole(2147483), pointed(0), pointed(-1000), pointed(1), pointed(1 << 31), pointed(-1 << 31), name(""), name(allBytes()), text(""), text(allBytes()), ref(0, 0), ref(2147483, 2147483), arr(), dict(), filled(name("R")), arr(name(""), name(""), text(""), dict()), arr(whole(1), whole(0), ref(1, 0), whole(2), name("R")), dict(entry("", name("")), entry(allBytes(), text(allBytes()))), dict(entry("B", whole(1)), entry("A", arr(null))), arr(objects(1024)...), dict(entries(1024)...), nested(64, text("x"), api.Arr), nested(64, null, api.Arr, api.Dict), nested(63, arr(), api.Dict), dict(entry("Length", whole(9)))}
	for i := range 256 {
		b := string([]byte{byte(i)})
		l = append(l, name(b), text(b), text(b+"7"), text("\r"+b), name(b+"7"), dict(entry(b, name(b))))
	}
	for _, o := range l {
		checkRead(t, o)
		checkReadNumbered(t, 1, 0, o)
		checkReadNumbered(t, 2147483, 2147483, o)
		if len(o.L)+len(o.D) > 0 {
			continue
		}
		checkRead(t, arr(o, o, o))
		checkRead(t, arr(whole(1), o, whole(0), o, name("R")))
		if o.Kind != api.Null {
			checkRead(t, dict(entry("x", o), entry("y", dict(entry("", o))), entry("z", o)))
		}
	}
}

func TestStreamReadAsItWas(t *testing.T) {
	for _, s := range []string{"", "\n", "\r", "\r\n", "\n\r", "a", " a ", "endstream", "\nendstream\nendobj\n", "%", "(", allBytes(), strings.Repeat("\r\n", 1<<19)} {
		checkReadNumbered(t, 3, 0, stream(s))
		checkReadNumbered(t, 3, 0, stream(s, entries(1023)...))
		checkReadNumbered(t, 3, 0, stream(s, append(entries(1023), entry("Length", name("x")))...))
		checkReadNumbered(t, 3, 0, stream(s, entry("Length", ref(4, 0)), entry("A", nested(63, name("x"), api.Dict, api.Arr))))
		checkReadNumbered(t, 3, 0, filled(stream(s, entry("A", whole(1)))))
	}
}

// someText is of a few bytes, of any kind.
func someText(r *rand.Rand) string {
	bytes := []byte("AB /()\\#<>\r\n\x00\xff~7")
	out := make([]byte, r.Intn(4))
	for i := range out {
		out[i] = bytes[r.Intn(len(bytes))]
	}
	return string(out)
}

// someNumber is one at which something changes; a wrong one now and then, if it may be wrong.
func someNumber(r *rand.Rand, wrong bool) api.Fix {
	l := []api.Fix{0, 1, 500, 1000, 1500, 70000, 2147483000, 2147484000, 1 << 31, 1<<31 + 1, math.MaxInt, math.MinInt, 1 << 40, -1}
	if !wrong {
		l = l[:7]
	}
	return l[r.Intn(len(l))]
}

// someObject is one of any kind, with errors now and then, if it may be wrong.
func someObject(r *rand.Rand, depth int, wrong bool) api.Obj {
	o := api.Obj{Kind: r.Intn(8)}
	o.N, o.F, o.S = r.Intn(2), someNumber(r, false), someText(r)
	if o.Kind == api.Num && o.N == 1 || o.Kind == api.Ref {
		o.F -= o.F % 1000
	}
	odd := 99
	if wrong {
		odd = r.Intn(14)
	}
	switch odd {
	case 0:
		o.Kind = []int{-1, 9, api.Stream, math.MaxInt}[r.Intn(4)]
	case 1:
		o.N = []int{-1, 2, 2147483, 2147484, math.MinInt}[r.Intn(5)]
	case 2:
		o.Kind, o.F = api.Num, someNumber(r, true)
	case 3:
		o.Kind, o.N, o.F = api.Ref, []int{1, 2147484}[r.Intn(2)], someNumber(r, true)
	}
	if depth > 0 {
		someInside(r, &o, depth-1, wrong)
	}
	return o
}

func someInside(r *rand.Rand, o *api.Obj, depth int, wrong bool) {
	for range r.Intn(5) {
		o.L = append(o.L, someObject(r, depth, wrong))
		e := entry(someText(r), someObject(r, depth, wrong))
		if r.Intn(5) == 0 {
			e.Key = "Length"
		}
		if wrong && r.Intn(20) == 0 || e.V.Kind != api.Null && cos.Get(dict(o.D...), e.Key).Kind == api.Null {
			o.D = append(o.D, e)
		}
	}
}

// checkBoth asks all calls for what the document's words say.
func checkBoth(t *testing.T, n, g int, o api.Obj) {
	t.Helper()
	if got, want := Sane(o), wantSane(o); got != want {
		t.Errorf("Sane(%s): %v, not %v", short(o), got, want)
	}
	s, e := wantObject(o)
	checkTold(t, o, s, e)
	if e == api.OK {
		checkRead(t, o)
	}
	s, e = wantIndirect(n, g, o)
	checkNumbered(t, n, g, o, s, e)
	if e == api.OK {
		checkReadNumbered(t, n, g, o)
	}
}

func TestManyObjects(t *testing.T) {
	r := rand.New(rand.NewSource(4))
	met := map[api.Errno]int{}
	for i := range 8000 {
		o := someObject(r, 4, i%3 > 0)
		o.Kind = []int{api.Stream, api.Arr, api.Dict, o.Kind}[i%4]
		n, g := r.Intn(3), r.Intn(70000)
		if i%10 == 0 {
			n, g = int(someNumber(r, true)), int(someNumber(r, i%20 == 0))
		}
		checkBoth(t, n, g, o)
		met[wantSane(o)]++
	}
	if met[api.OK] < 2000 || met[api.ErrArg] < 1000 || met[api.ErrRange] < 200 {
		t.Error("too few of a kind:", met)
	}
}

// Several errors of one object, or of two, at once.
func TestTwoErrors(t *testing.T) {
	l := []api.Obj{null, whole(1), truth(2), {Kind: 9}, {Kind: api.Num, N: 1, F: 1}, {Kind: api.Num, N: 1, F: 1<<40 + 1}, pointed(1 << 40), {Kind: api.Ref, N: 1 << 40, F: -1}, ref(1<<40, 0), arr(objects(1025)...), dict(entries(1025)...), dict(append(entries(1025), entries(1)...)...), dict(entry("A", null)), dict(entry("A", pointed(1<<40)), entry("A", whole(1))), stream("s"), stream("s", entry("A", pointed(1<<40))), nested(63, whole(1), api.Arr), nested(62, whole(1), api.Dict), nested(64, truth(2), api.Dict), nested(63, arr(objects(1025)...), api.Arr)}
	for _, a := range l {
		for _, b := range l {
			for _, o := range []api.Obj{arr(a, b), dict(entry("A", a), entry("B", b)), dict(entry("A", a), entry("A", b)), stream("s", entry("Length", a), entry("B", arr(null, b)))} {
				if got, want := Sane(o), wantSane(o); got != want {
					t.Errorf("Sane(%s): %v, not %v", short(o), got, want)
				}
			}
		}
		checkBoth(t, 1, 0, a)
		checkBoth(t, 0, 2147484, a)
	}
}

// objectOf is an object that bytes tell, and the bytes behind it.
func objectOf(s string, depth int) (api.Obj, string) {
	if len(s) < 3 {
		return null, ""
	}
	o := api.Obj{Kind: int(s[0]%11) - 1, N: int(int8(s[1])) % 4, F: api.Fix(int8(s[2])) * 500}
	length := int(s[2] % 8)
	if s[1] > 250 {
		o.F, o.N = o.F<<30, o.N<<30
	}
	s = s[3:]
	cut := min(length, len(s))
	o.S = s[:cut]
	if depth > 70 || o.Kind != api.Arr && o.Kind != api.Dict && o.Kind != api.Stream {
		return o, s[cut:]
	}
	for range length {
		var k api.Obj
		key := s[:min(1, len(s))]
		k, s = objectOf(s[len(key):], depth+1)
		o.L, o.D = append(o.L, k), append(o.D, entry(key, k))
	}
	return o, s
}

func FuzzWrite(f *testing.F) {
	f.Add(1, 0, "\x06\x00\x02\x07\x00\x02a\x04\x01\x02A")
	f.Add(0, 2147484, "\x09\x00\x01\x00\x00\x00\x00\x00")
	f.Fuzz(func(t *testing.T, n, g int, s string) {
		o, _ := objectOf(s, 0)
		checkBoth(t, n, g, o)
		checkBoth(t, 1, 0, stream(s, o.D...))
		checkBoth(t, 1, 0, dict(entry(s, text(s)), entry("B", name(s)), entry("C", o)))
	})
}
