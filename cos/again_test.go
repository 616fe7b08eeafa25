package cos

import (
	"math"
	"math/rand"
	"strconv"
	"strings"
	"testing"

	"inkstand/api"
)

// P4.5

// checkAgain asks that what stands at a place is read so again behind white, and without what is behind it.
func checkAgain(t *testing.T, s string, at int) {
	t.Helper()
	o, to, _ := Parse(s, at)
	for _, white := range []string{" ", "\n", "\x00\t\f\r", "%\xff(\n", "%[%\r "} {
		behind := white + s[at:]
		checkParse(t, behind, 0, o, to-at+len(white), api.OK)
		checkParse(t, behind[:to-at+len(white)], 0, o, to-at+len(white), api.OK)
		checkParse(t, s[:at]+behind, at, o, to+len(white), api.OK)
	}
}

func TestReadAgain(t *testing.T) {
	for _, s := range []string{"null", "true", "1", "-1.5", "/A", "/", "(a\\\r\n(b))", "<41 4>", "[1 0 R /A]", "<</A null>>", "<</A 1/A 2/B[<<>>]>>", "1 0 R", "0%\n0%\nR", nested(64, "/A"), deepDicts(64, "/A(b)"), "[" + strings.Repeat("1 0 R ", 1024) + "]"} {
		checkAgain(t, s, 0)
		checkAgain(t, "[ "+s, 2)
		checkAgain(t, s+"(", 0)
	}
}

func TestNumberedAgain(t *testing.T) {
	for _, s := range []string{"1 0 obj null endobj", "1 2 obj[3 4 R]endobj", "1 0 obj<</Length 2>>stream\r\na\nendstream endobj"} {
		n, g, o, to, e := Indirect(s, 0)
		if e != api.OK {
			t.Fatal(s, e)
		}
		for _, white := range []string{" ", "\n", "\x00\t\f\r", "%(\n"} {
			checkIndirect(t, white+s, 0, n, g, o, to+len(white), api.OK)
		}
	}
}

func TestSetIsGot(t *testing.T) {
	r := rand.New(rand.NewSource(5))
	for range 10000 {
		o, v := someObject(r, 3), someObject(r, 2)
		key, other := "ABCD"[r.Intn(4):][:1], "ABCD"[r.Intn(4):][:1]
		o.Kind = []int{api.Dict, api.Stream}[r.Intn(2)]
		was := Get(o, other)
		got := Set(o, key, v)
		switch {
		case v.Kind == api.Null:
			checkGet(t, got, key, null)
		default:
			checkGet(t, got, key, v)
		}
		if other != key {
			checkGet(t, got, other, was)
		}
		// Set again it stays as it is, and taken out it is gone.
		checkSet(t, got, key, v, got)
		checkGet(t, Set(got, key, null), key, null)
	}
}

// P1

// ringless is a pile of n objects in one another, by turns in L and in D.
func ringless(n int, inner api.Obj) api.Obj {
	for i := range n {
		switch i % 3 {
		case 0:
			inner = arr(inner)
		case 1:
			inner = dict(entry("A", inner))
		default:
			inner = stream("s", entry("A", inner))
		}
	}
	return inner
}

func TestDeepObjects(t *testing.T) {
	const n = 1 << 16
	a, b, c := ringless(n, null), ringless(n, null), ringless(n, whole(1))
	if !Same(a, b) || Same(a, c) || !Same(c, c) || Count(a) != n+1 {
		t.Error("of many in one another")
	}
	top := Set(dict(), "A", a)
	if Count(top) != n+2 || !Same(Get(top, "A"), b) {
		t.Error("set into another one")
	}
}

func TestWideObjects(t *testing.T) {
	const n = 1 << 15
	var forth, back api.Obj
	forth.Kind, back.Kind = api.Dict, api.Dict
	for i := range n {
		forth.D = append(forth.D, entry(strconv.Itoa(i), whole(1)))
		back.D = append(back.D, entry(strconv.Itoa(n-1-i), pointed(1000)))
	}
	if !Same(forth, back) || Count(forth) != n+1 || Same(forth, Set(back, "7", null)) {
		t.Error("of many entries")
	}
}

func TestNonePanics(t *testing.T) {
	for _, s := range []string{"", "[", "<<", "(", "/", "1 0 obj<</Length 9>>stream\n", "1 0 obj<</Length 1>>stream\r\n\nendstream endobj", "1 0 R", "%", ")", "\xff"} {
		for at := -2; at <= len(s)+2; at++ {
			checkBoth(t, s, at)
		}
		for _, at := range []int{math.MinInt, math.MaxInt, -1 << 31, 1 << 31} {
			checkBoth(t, s, at)
		}
	}
	for _, piece := range []string{"[", "]", "<<", ">>", "<</A", "[[]", "/A", "1 ", "1 0 R", "(", "()", "<", "%", "%\n", " ", "true ", "\xff", "1 0 obj", "stream\n"} {
		long := strings.Repeat(piece, 1<<18)
		for _, ahead := range []string{"", "[", "<<", "<</A", "1 ", "1 0 ", "1 0 obj", "1 0 obj<<>>", "1 0 obj<</Length 5>>stream\n"} {
			checkBoth(t, ahead+long, 0)
		}
	}
	many := "<</Length 2147483>>stream\n" + strings.Repeat("x", 2147483) + "endstream endobj"
	checkIndirect(t, "1 0 obj"+many, 0, 1, 0, stream(strings.Repeat("x", 2147483), entry("Length", whole(2147483))), 7+len(many), api.OK)
	for _, o := range append(noDicts(), strange(api.Dict), strange(api.Stream), dict(), stream("")) {
		Get(o, "A")
		Set(o, "A", o)
		Same(o, o)
		Count(o)
	}
}

func FuzzCos(f *testing.F) {
	f.Add("[1 0 R /A<</B null/C(d)/C 2>>]", 0)
	f.Add("x 1 0 obj<</Length 2>>stream\r\nabendstream endobj", 2)
	f.Add("<</Length 2.0>>stream\nab\nendstream%\nendobj", 0)
	f.Fuzz(func(t *testing.T, s string, at int) {
		checkBoth(t, s, at)
		checkBoth(t, s, 0)
		checkBoth(t, "1 0 obj"+s, 0)
		checkBoth(t, "1 0 obj<</Length 2>>stream"+s, 0)
	})
}
