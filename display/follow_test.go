package display

import (
	"math/rand"
	"strings"
	"testing"

	"inkstand/api"
	"inkstand/geom"
	"inkstand/store"
)

// P12.4

// A text whose operators may stand anywhere, drawn in a file whose resources these are.
const someRes = "<</XObject<</X 1 0 R/Y 2 0 R/Z 3 0 R>>>>"

func someFile() store.File {
	return file(form("", "1 2 m f (x) Tj"), form("/Matrix[2 0 0 2 1 1]", ".5 g /X Do 3 3 m q"), "<</Subtype/Image>>stream ")
}

// someNumber is a small one, so that no product of a few is too great.
func someNumber(r *rand.Rand) string {
	return pick(r, "0", "1", "-1", "2", ".5", "3.25", "-.001", "7")
}

func pick(r *rand.Rand, l ...string) string { return l[r.Intn(len(l))] }

// someOperator is one of a name, with the objects that it needs.
func someOperator(r *rand.Rand, name string) string {
	b := ""
	for _, k := range kinds[name] {
		switch k {
		case 'n':
			b += someNumber(r) + " "
		case 'N':
			b += pick(r, "/X", "/Y", "/Z") + " "
		case 's':
			b += pick(r, "()", "(a)", "<6263>") + " "
		case 'a':
			b += pick(r, "[]", "[(a)]", "[(a)-1(b)]") + " "
		}
	}
	return b + name + "\n"
}

var inner = strings.Fields("cm w g G rg RG m l h re f F f* S B B* s b b* n W W* BT Tm Td TD TL T* Tf Tj ' TJ Do d x ET")

// someText is so many operators, with each q its Q.
func someText(r *rand.Rand, n int) string {
	b := ""
	for range n {
		if r.Intn(8) == 0 {
			b += "q\n" + someText(r, r.Intn(4)) + "Q\n"
		} else {
			b += someOperator(r, inner[r.Intn(len(inner))])
		}
	}
	return b
}

func drawn(t *testing.T, b string) []Item {
	t.Helper()
	l, e := Run(someFile(), obj(someRes), []byte(b))
	if e != api.OK {
		t.Fatalf("%q: %v", b, e)
	}
	return l
}

// What stands between q and Q draws as it does without them, and what follows as if it were not there, but for the path and the text's matrices, which q does not keep.
func TestBetween(t *testing.T) {
	r := rand.New(rand.NewSource(12))
	met := 0
	for range 4000 {
		// The path is empty, and the text's matrices are as at first, ahead of what is between, and behind it.
		first, between, last := someText(r, r.Intn(6))+"n BT ", someText(r, r.Intn(8)), "n BT "+someText(r, r.Intn(6))
		a, ab := drawn(t, first), drawn(t, first+between)
		all := drawn(t, first+"q "+between+"Q "+last)
		if !sameItems(all[:len(ab)], ab) {
			t.Fatalf("%q between q and Q draws %s, not %s", between, cut(told(all)), cut(told(ab)))
		}
		without := drawn(t, first+last)
		if !sameItems(all[len(ab):], without[len(a):]) || !sameItems(without[:len(a)], a) {
			t.Fatalf("%q, %q: %q draws %s, not %s", first, between, last, cut(told(all[len(ab):])), cut(told(without[len(a):])))
		}
		if !sameItems(drawn(t, first+"q "+between+"Q"), ab) {
			t.Fatalf("%q, %q: Q draws", first, between)
		}
		if len(ab) > len(a) && len(without) > len(a) {
			met++
		}
	}
	if met < 800 {
		t.Error("too few draw between and behind:", met)
	}
}

// Without Q it is otherwise: the state is what q and Q hold together.
func TestBetweenOnly(t *testing.T) {
	r := rand.New(rand.NewSource(13))
	for _, name := range strings.Fields("cm w g G rg RG Tf TL TD") {
		other := 0
		for range 60 {
			op := someOperator(r, name)
			const show = "n BT 1 1 m B (a) Tj (b) '"
			if with := drawn(t, "q "+op+"Q "+show); !sameItems(with, drawn(t, show)) {
				t.Errorf("%q: %s", op, told(with))
			}
			if !sameItems(drawn(t, op+show), drawn(t, show)) {
				other++
			}
		}
		if other < 30 {
			t.Error(name, other)
		}
	}
}

func whole(r *rand.Rand) api.Matrix {
	var m api.Matrix
	for i := range m {
		m[i] = api.Fix(r.Intn(19)-9) * 1000
	}
	return m
}

func fraction(r *rand.Rand) api.Matrix {
	var m api.Matrix
	for i := range m {
		m[i] = api.Fix(r.Intn(9000) - 4500)
	}
	return m
}

func cm(m api.Matrix) string { return strings.ReplaceAll(numbersTold(m[:]), ",", " ") + " cm " }

// Two matrices draw as the one that they are one behind the other: the later one is done first.
func TestProduct(t *testing.T) {
	r := rand.New(rand.NewSource(14))
	const show = "1 2 m 3 4 5 6 re B /F 2 Tf 1 0 0 1 7 8 Tm (a) Tj /X Do /Y Do"
	for range 2000 {
		// Behind the first matrix numbers of any kind are not rounded otherwise; whole ones are not behind another, either.
		m, n := fraction(r), fraction(r)
		p, e := geom.Mul(n, m)
		if e != api.OK {
			t.Fatal(m, n, e)
		}
		if two, one := drawn(t, cm(m)+cm(n)+show), drawn(t, cm(p)+show); !sameItems(two, one) {
			t.Fatalf("%v %v: %s, not %s", m, n, told(two), told(one))
		}
		l, m, n := whole(r), whole(r), whole(r)
		p, _ = geom.Mul(n, m)
		if two, one := drawn(t, cm(l)+cm(m)+cm(n)+show), drawn(t, cm(l)+cm(p)+show); !sameItems(two, one) {
			t.Fatalf("%v %v %v: %s, not %s", l, m, n, told(two), told(one))
		}
		if !sameItems(drawn(t, cm(l)+cm(unit)+show), drawn(t, cm(l)+show)) || !sameItems(drawn(t, cm(unit)+cm(l)+show), drawn(t, cm(l)+show)) {
			t.Fatal(l)
		}
	}
}

// A Form by a matrix is what Do draws of it there.
func TestFormIsDo(t *testing.T) {
	r := rand.New(rand.NewSource(15))
	for range 1500 {
		m, own := whole(r), whole(r)
		x := form("/Matrix["+strings.TrimSuffix(cm(own), "cm ")+"]/Resources "+someRes, someText(r, r.Intn(9)))
		f := someFile()
		f.L = append(f.L, store.Numbered{N: 4, O: obj(x)})
		a, e := Form(f, ref(4), m)
		if e != api.OK {
			t.Fatal(x, m, e)
		}
		b, e := Run(f, obj("<</XObject<</A 4 0 R>>>>"), []byte(cm(m)+"/A Do"))
		if e != api.OK || !sameItems(a, b) {
			t.Fatalf("%s, %v: %s, not %s", x, m, cut(told(b)), cut(told(a)))
		}
		// Its own matrix is one behind the other, too; and with a Clip ahead it draws as its text does there.
		p, _ := geom.Mul(own, m)
		f.L[3].O = obj("<</BBox[0 0 0 0]/Resources " + someRes + ">>stream " + f.L[3].O.S)
		if c, e := Form(f, ref(4), p); e != api.OK || !sameItems(a, c) {
			t.Fatalf("%s, %v: %s, not %s", x, m, cut(told(c)), cut(told(a)))
		}
		c, e := Run(f, obj(someRes), []byte(cm(p)+f.L[3].O.S))
		if e != api.OK || !sameItems(a[1:], c) {
			t.Fatalf("%s, %v: %s, not %s", x, m, cut(told(a)), cut(told(c)))
		}
	}
}
