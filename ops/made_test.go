package ops

import (
	"math/rand"
	"strings"
	"testing"

	"inkstand/api"
	"inkstand/cos"
)

// P11.4, and made texts and operators, whose answers are held against the document's words (want_test.go).

// plain is an object with the fields alone that its kind has, and so is what stands in it.
func plain(o api.Obj) api.Obj {
	p := api.Obj{Kind: o.Kind}
	switch o.Kind {
	case api.Bool:
		p.N = o.N
	case api.Num:
		p.N, p.F = o.N, o.F
	case api.Name, api.Str:
		p.S = o.S
	case api.Arr:
		for _, k := range o.L {
			p.L = append(p.L, plain(k))
		}
	case api.Dict:
		for _, e := range o.D {
			p.D = append(p.D, entry(e.Key, plain(e.V)))
		}
	}
	return p
}

func plainOps(l []Op) []Op {
	var out []Op
	for _, o := range l {
		p := op(o.Name)
		for _, a := range o.Args {
			p.Args = append(p.Args, plain(a))
		}
		out = append(out, p)
	}
	return out
}

// checkRead asks that what is written is parsed as it was, and written so again.
func checkRead(t *testing.T, l []Op) {
	t.Helper()
	s, e := Write(l)
	if e != api.OK {
		t.Errorf("Write(%s): %v", short(l), e)
		return
	}
	want := plainOps(l)
	checkParse(t, s, want, api.OK)
	checkParse(t, "%\n"+s+"%", want, api.OK)
	checkWrite(t, want, s, api.OK)
	for i, o := range want {
		for j, a := range o.Args {
			if !cos.Same(a, plain(l[i].Args[j])) {
				t.Error("not the same:", short(a))
			}
		}
	}
}

func TestReadAsItWas(t *testing.T) {
	all := ""
	for i := range 256 {
		all += string([]byte{byte(i)})
	}
	objs := []api.Obj{null, truth(0), truth(1), whole(0), whole(-7), whole(2147483), pointed(0), pointed(-1000), pointed(1 << 31), name(""), name(all), name("R"), text(""), text(all), arr(), dict(), arr(whole(1), whole(0), name("R"), null), dict(entry("", name("")), entry(all, text(all))), arr(objects(1024)...), nested(64, text("x")), arrs(64), {Kind: api.Name, N: 5, F: 3, S: "A", L: []api.Obj{ref(1, 0)}, D: []api.Entry{entry("A", ref(1, 0))}}}
	checkRead(t, nil)
	checkRead(t, []Op{op("x", objs...), op("y", objs...)})
	for _, o := range objs {
		for _, s := range []string{"q", "R", "#", "\xff", "T*"} {
			checkRead(t, []Op{op(s), op(s, o), op("q", o, o), op(s, whole(1), o, whole(0)), op("R", whole(1), whole(0))})
		}
		checkRead(t, []Op{op("x", slicesOf(op("", o), 1)[0].Args...), op("many", append(objects(63), o)...)})
	}
	checkRead(t, slicesOf(op("x", whole(1)), 65536))
}

// Objects and words of which texts are made, as they may stand one behind the other.
var pieces = []string{"1", "0", "1.5", "R", "null", "/A", "x", "[", "]", "<<", ">>", "BI", "(", "q"}

func TestAllTexts(t *testing.T) {
	var l []string
	var more func(n int)
	met := map[api.Errno]int{}
	more = func(n int) {
		s := strings.Join(l, " ")
		want, e := wantParse(s)
		got, err := Parse(s)
		if !equal(got, want) || err != e {
			t.Errorf("Parse(%q): %s %v, not %s %v", s, short(got), err, short(want), e)
		}
		met[e]++
		for _, p := range pieces {
			if n > 0 {
				l = append(l, p)
				more(n - 1)
				l = l[:len(l)-1]
			}
		}
	}
	more(4)
	if met[api.OK] < 1000 || met[api.ErrForm] < 10000 || met[api.ErrShort] < 5000 {
		t.Error("too few of a kind:", met)
	}
}

func TestAllWraps(t *testing.T) {
	words := []string{"q", "Q", "BT", "ET", "x"}
	balanced := 0
	for n := range 7 {
		for at := range pow(5, n) {
			var l []Op
			for ; len(l) < n; at /= 5 {
				l = append(l, op(words[at%5]))
			}
			want := wantBalanced(l)
			if want {
				balanced++
			}
			checkBalanced(t, l, want)
			checkWrap(t, l, wantWrap(l))
		}
	}
	if balanced < 200 {
		t.Error("too few are balanced:", balanced)
	}
}

func pow(b, n int) int {
	if n == 0 {
		return 1
	}
	return b * pow(b, n-1)
}

// someTexts is a text of many pieces, seldom with one that is wrong where it stands.
func someText(r *rand.Rand) string {
	right := []string{"1 ", "0 R ", "-1.5 ", "null ", "true ", "/A", "/B#20", "(a\\(b)", "<41>", "[1 0 R]", "[1 0]", "<</A 1 0 R/B null>>", "<<>>", "[<</A[]>>]", "% x\n", "\x00", "q ", "Q ", "x\n", "TJ ", "T*[", "]", "R "}
	wrong := []string{"]", ">>", "BI ", "(", ")", "[", "<<", "/#", "1a ", "99999999 ", "<x>", "{", strings.Repeat("[", 60), strings.Repeat("1 ", 60), strings.Repeat("<</A ", 62), "[" + strings.Repeat("1 0 R ", 1025), "9", "a"}
	var b strings.Builder
	for range r.Intn(40) {
		switch {
		case r.Intn(60) == 0:
			b.WriteString(wrong[r.Intn(len(wrong))])
		case r.Intn(4) == 0:
			b.WriteString(" x ")
		default:
			b.WriteString(right[r.Intn(len(right)-3)])
		}
	}
	if r.Intn(4) > 0 {
		b.WriteString(" Q")
	}
	return b.String()
}

func TestManyTexts(t *testing.T) {
	r := rand.New(rand.NewSource(11))
	met := map[api.Errno]int{}
	for range 20000 {
		s := someText(r)
		want, e := wantParse(s)
		checkParse(t, s, want, e)
		met[e]++
		if e == api.OK {
			checkBoth(t, want)
		}
	}
	if met[api.OK] < 5000 || met[api.ErrForm] < 2000 || met[api.ErrShort] < 200 || met[api.ErrRange] < 100 || met[api.ErrLarge] < 200 || met[api.ErrDeep] < 10 {
		t.Error("too few of a kind:", met)
	}
}

// someObject is one of any kind, now and then with an error or a Ref.
func someObject(r *rand.Rand, depth int) api.Obj {
	o := api.Obj{Kind: r.Intn(7), N: r.Intn(2), F: api.Fix(r.Intn(5)) * 1000, S: []string{"", "A", "a b", "#", "(\\"}[r.Intn(5)]}
	switch r.Intn(90) {
	case 0:
		o.Kind = []int{-1, 9, api.Stream, api.Ref}[r.Intn(4)]
	case 1:
		o.N = r.Intn(4) - 1
	case 2:
		o.Kind, o.N, o.F = api.Num, 0, []api.Fix{1 << 40, 1, -1<<31 - 1}[r.Intn(3)]
	case 3:
		o = nested(60+r.Intn(8), o)
	}
	for range r.Intn(4) * min(depth, 1) {
		o.L = append(o.L, someObject(r, depth-1))
		e := entry("ABCDEF"[r.Intn(6):], someObject(r, depth-1))
		if e.V.Kind != api.Null && cos.Get(dict(o.D...), e.Key).Kind == api.Null || r.Intn(300) == 0 {
			o.D = append(o.D, e)
		}
	}
	return o
}

func someOp(r *rand.Rand) Op {
	words := []string{"q", "Q", "BT", "ET", "x", "rg", "R", "#", "T*", "\xff"}
	o := op(words[r.Intn(len(words))])
	if r.Intn(100) == 0 {
		o.Name = []string{"", "BI", "true", "null", "a b", "1", "-", "a/", "%"}[r.Intn(9)]
	}
	for range r.Intn(5) {
		o.Args = append(o.Args, someObject(r, 2))
	}
	if r.Intn(100) == 0 {
		o.Args = append(o.Args, objects(58+r.Intn(8))...)
	}
	return o
}

// checkBoth asks of operators what the document's words say.
func checkBoth(t *testing.T, l []Op) api.Errno {
	t.Helper()
	s, e := wantWrite(l)
	checkWrite(t, l, s, e)
	if e == api.OK {
		checkRead(t, l)
	}
	checkBalanced(t, l, wantBalanced(l))
	checkWrap(t, l, wantWrap(l))
	return e
}

func TestManyLists(t *testing.T) {
	r := rand.New(rand.NewSource(12))
	met := map[api.Errno]int{}
	for range 6000 {
		var l []Op
		for range r.Intn(8) {
			l = append(l, someOp(r))
		}
		met[checkBoth(t, l)]++
	}
	if met[api.OK] < 2000 || met[api.ErrArg] < 500 || met[api.ErrRange] < 100 || met[api.ErrLarge] < 20 || met[api.ErrDeep] < 20 {
		t.Error("too few of a kind:", met)
	}
}

// P1

func TestNonePanics(t *testing.T) {
	for _, piece := range append(pieces, "[]", "<</A", "[1 ", "1 0 R ", "%", "%\n", " ", ")", "\xff", "/", "()", "x ") {
		long := strings.Repeat(piece, 1<<18)
		for _, ahead := range []string{"", "[", "q ", "1 ", "<</A"} {
			want, e := wantParse(ahead + long)
			checkParse(t, ahead+long, want, e)
		}
	}
	odd := []Op{{}, {Name: "x", Args: make([]api.Obj, 100)}, {Name: "q", Args: []api.Obj{{Kind: -5, L: make([]api.Obj, 3)}}}}
	for i := range odd {
		checkBoth(t, odd[i:i+1])
		checkBoth(t, odd[i:])
	}
}

func FuzzOps(f *testing.F) {
	f.Add("1 0 0 rg /F Tf [1 0 R(a)] 1 0 R")
	f.Add("q <</A null>> BT ET % x\nBI")
	f.Fuzz(func(t *testing.T, s string) {
		want, e := wantParse(s)
		checkParse(t, s, want, e)
		checkBoth(t, want)
		checkBoth(t, []Op{op("q"), op(s, text(s)), op("x", name(s))})
		checkBoth(t, []Op{op("Q", text(s), name(s), dict(entry(s, text(s))))})
	})
}
