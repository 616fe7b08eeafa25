package metric

import (
	"math"
	"math/rand"
	"testing"

	"inkstand/api"
	"inkstand/store"
)

// Made texts, fonts and files: what is answered is held against the document's words (want_test.go).

func checkFont(t *testing.T, font Font, s string, size api.Fix) api.Errno {
	t.Helper()
	checkWidth(t, font, s, wantWidth(font, s))
	want, e := wantAdvance(font, s, size)
	checkAdvance(t, font, s, size, want, e)
	return e
}

func checkObject(t *testing.T, f store.File, o api.Obj) api.Errno {
	t.Helper()
	want, e := wantOf(f, o)
	checkOf(t, f, o, want, e)
	return e
}

// someNumber is most often a small one.
func someNumber(r *rand.Rand) int {
	switch r.Intn(8) {
	case 0:
		return []int{math.MaxInt, math.MinInt, 1 << 62, -1 << 62, 1 << 31, -1 << 31, 1<<31 + 1, 0}[r.Intn(8)]
	case 1:
		return r.Int() - r.Int()
	case 2:
		return -r.Intn(3000)
	}
	return r.Intn(3000)
}

func someFont(r *rand.Rand) Font {
	font := Font{First: r.Intn(300) - 20, Other: r.Intn(1500)}
	small := r.Intn(3) > 0
	for range r.Intn(280) {
		w := r.Intn(1500)
		if !small {
			w = someNumber(r)
		}
		font.Widths = append(font.Widths, w)
	}
	if r.Intn(10) == 0 {
		font.First, font.Other = someNumber(r), someNumber(r)
	}
	return font
}

func someBytes(r *rand.Rand, most int) string {
	b := make([]byte, r.Intn(most))
	for i := range b {
		b[i] = byte(r.Intn(256))
	}
	return string(b)
}

func TestManyFonts(t *testing.T) {
	r := rand.New(rand.NewSource(13))
	met := map[api.Errno]int{}
	for range 6000 {
		size := api.Fix(r.Intn(40000) - 10000)
		if r.Intn(8) == 0 {
			size = api.Fix(someNumber(r))
		}
		met[checkFont(t, someFont(r), someBytes(r, 40), size)]++
	}
	if met[api.OK] < 2000 || met[api.ErrRange] < 1000 {
		t.Error("too few of a kind:", met)
	}
}

// somePieces is a text of bytes and characters that lie near to one another's limits.
func somePieces(r *rand.Rand) string {
	s := ""
	if r.Intn(3) == 0 {
		s = "\xfe\xff"
	}
	for range r.Intn(8) {
		switch r.Intn(7) {
		case 0:
			s += string(rune(r.Intn(256)))
		case 1:
			s += string(rune(r.Intn(0x110000)))
		case 2:
			s += pairOf(55296 + r.Intn(1024))
		case 3:
			s += pairOf(56320 + r.Intn(1024))
		case 4:
			s += pairOf(r.Intn(65536))
		case 5:
			s += string([]byte{byte(r.Intn(256))})
		case 6:
			s += pairOf(r.Intn(256))
		}
	}
	return s
}

func TestManyTexts(t *testing.T) {
	r := rand.New(rand.NewSource(14))
	for range 60000 {
		checkText(t, somePieces(r))
		checkText(t, someBytes(r, 10))
	}
}

func pick(r *rand.Rand, l ...string) string { return l[r.Intn(len(l))] }

// someWidth is most often a right one.
func someWidth(r *rand.Rand) string {
	if r.Intn(30) == 0 {
		return pick(r, "5001", "-1", "0.5", "null", "/A", "6 0 R", "7 0 R", "[1]", "99 0 R", "5000.001")
	}
	return pick(r, "0", "5000", "278", "556.0", "600", "1 0 R", "2 0 R", "1000")
}

// someDict is a font's, most often.
func someDict(r *rand.Rand) string {
	s := "<<"
	if r.Intn(3) > 0 {
		s += "/Widths"
		switch r.Intn(8) {
		case 0:
			s += pick(r, " null", " 7", " 8 0 R", " 6 0 R", "/A", " 99 0 R", "(x)")
		case 1:
			s += " 9 0 R"
		default:
			s += "["
			n := r.Intn(20)
			if r.Intn(30) == 0 {
				n = 250 + r.Intn(10)
			}
			for range n {
				s += " " + someWidth(r)
			}
			s += "]"
		}
	}
	if r.Intn(8) > 0 {
		s += "/FirstChar " + pick(r, "0", "32", "255", "65", "3 0 R", "4 0 R", "32", "65", pick(r, "256", "-1", "1.0", "null", "6 0 R", "/A", "1 0 R", "7 0 R"))
	}
	if r.Intn(8) > 0 {
		s += "/BaseFont" + pick(r, "/Helvetica", "/Times-Roman", "/Courier", " 5 0 R", pick(r, "/Arial", "(Courier)", " 6 0 R", " 1 0 R", " null", "/courier"))
	}
	return s + ">>"
}

func TestManyObjects(t *testing.T) {
	r := rand.New(rand.NewSource(15))
	f := file("500", "1 0 R", "65", "3 0 R", "/Courier", "6 0 R", "7 0 R", "null", "[1 2 1 0 R]", "null")
	met := map[api.Errno]int{}
	for range 20000 {
		f.L[9].O = obj(someDict(r))
		o := ref(10)
		if r.Intn(2) == 0 {
			o = f.L[9].O
		}
		if r.Intn(40) == 0 {
			o = obj(pick(r, "1 0 R", "6 0 R", "null", "[]", "9 0 R", "/A"))
		}
		met[checkObject(t, f, o)]++
	}
	for e, least := range map[api.Errno]int{api.OK: 4000, api.ErrForm: 2000, api.ErrCycle: 500, api.ErrLarge: 20, api.ErrType: 100} {
		if met[e] < least {
			t.Error("too few of a kind:", met)
		}
	}
}

func FuzzMetric(f *testing.F) {
	f.Add("\xfe\xff\xd8\x3d\xde\x00", 32, 5, 3, 12000)
	f.Add("A b\xfe\xffþÿ€", math.MinInt, math.MaxInt, -1, -1)
	f.Add("", 0, 0, 0, 0)
	f.Fuzz(func(t *testing.T, s string, first, a, b, size int) {
		checkText(t, s)
		checkText(t, "\xfe\xff"+s)
		for _, font := range []Font{{First: first, Widths: []int{a, b}, Other: b}, {First: first % 256, Widths: []int{a % 5000, b % 5000, size}, Other: a}, standard("Helvetica"), {First: first, Other: a}} {
			checkFont(t, font, s, api.Fix(size))
		}
		num := func(n, whole int) api.Obj { return api.Obj{Kind: api.Num, F: api.Fix(n), N: whole} }
		d := api.Obj{Kind: api.Dict, D: []api.Entry{{Key: "Widths", V: arr(num(a, 1), num(b, 0))}, {Key: "FirstChar", V: num(first, size)}}}
		checkObject(t, store.File{}, d)
		d.D[1].V = num(first%300*1000, 1)
		checkObject(t, store.File{}, d)
		d.D[0].V = arr(num(a%6000*1000, 1), num(b%6000*1000, 0))
		checkObject(t, store.File{}, d)
		checkObject(t, store.File{}, api.Obj{Kind: api.Dict, D: []api.Entry{{Key: "BaseFont", V: api.Obj{Kind: api.Name, S: s}}}})
		checkObject(t, store.File{L: []store.Numbered{{N: first, O: d}}}, ref(first))
	})
}
