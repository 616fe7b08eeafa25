package metric

import (
	"math"
	"strconv"
	"strings"
	"testing"

	"inkstand/api"
	"inkstand/cos"
	"inkstand/store"
)

// P13.2

// leading is a file in which 1 leads to a Dict, 2 to 1, 3 to a ring, 4 to null, 5 to 500, 6 to 5, 7 to an Arr, 8 to a Name, 9 to a Name of no font, 10 to 8, 11 to 7.
func leading() store.File {
	return file("<</Widths[1 2 3]/FirstChar 65>>", "1 0 R", "3 0 R", "null", "500", "5 0 R", "[7 5 0 R]", "/Courier", "/Arial", "8 0 R", "7 0 R")
}

// font is one of a first byte and widths.
func font(first int, widths ...int) Font { return Font{First: first, Widths: widths} }

func TestOfWidths(t *testing.T) {
	f := leading()
	for s, want := range map[string]Font{
		"<</Widths[1 2 3]/FirstChar 65>>":                       font(65, 1, 2, 3),
		"<</FirstChar 65/LastChar 1/Widths[3 2 1]/Type/Font>>":  font(65, 3, 2, 1),
		"<</Widths[]/FirstChar 0>>":                             font(0),
		"<</Widths[]/FirstChar 7>>":                             font(7),
		"<</Widths[0]/FirstChar 255>>":                          font(255, 0),
		"<</Widths[5000]/FirstChar 1>>":                         font(1, 5000),
		"<</Widths[4999 0 1]/FirstChar +254>>":                  font(254, 4999, 0, 1),
		"<</Widths[1 1 1]/FirstChar 255>>":                      font(255, 1, 1, 1),
		"<</Widths[-0 +5 0007]/FirstChar -0>>":                  font(0, 0, 5, 7),
		"<</Widths[1.0 2. 3.000 5000.0 .0]/FirstChar 2>>":       font(2, 1, 2, 3, 5000, 0),
		"<</Widths[0.0004 4999.9995]/FirstChar 2>>":             font(2, 0, 5000),
		"<</Widths[5 0 R 1 6 0 R]/FirstChar 2>>":                font(2, 500, 1, 500),
		"<</Widths 7 0 R/FirstChar 2>>":                         font(2, 7, 500),
		"<</Widths 11 0 R/FirstChar 2>>":                        font(2, 7, 500),
		"<</Widths[1]/FirstChar 2/BaseFont/Courier>>":           font(2, 1),
		"<</Widths[1]/FirstChar 2/BaseFont 3 0 R>>":             font(2, 1),
		"<</Widths[1]/FirstChar 2/BaseFont(x)>>":                font(2, 1),
		"<</Widths[]/FirstChar 2/BaseFont/Courier>>":            font(2),
		"<</Widths[1]/FirstChar 2/MissingWidth 7/Default 5>>":   font(2, 1),
		"<</Widths[1]/FirstChar 2/LastChar 3 0 R/Subtype 7>>":   font(2, 1),
		"<</Widths[1]/FirstChar 2/FontDescriptor<</Flags 1>>>>": font(2, 1),
		"1 0 R": font(65, 1, 2, 3),
		"2 0 R": font(65, 1, 2, 3),
		"1 9 R": font(65, 1, 2, 3),
	} {
		checkOf(t, f, obj(s), want, api.OK)
	}
}

// A width that the list has not is 0, not that of a font of this name.
func TestOfOther(t *testing.T) {
	got, e := Of(store.File{}, obj("<</Widths[10 20]/FirstChar 65/BaseFont/Helvetica>>"))
	if e != api.OK {
		t.Error(e)
	}
	for b := range 256 {
		checkWidth(t, got, string([]byte{byte(b)}), map[int]int{65: 10, 66: 20}[b])
	}
}

// What is no Dict.
func TestOfKinds(t *testing.T) {
	f := leading()
	for _, s := range []string{"null", "true", "7", "7.5", "/Helvetica", "(Helvetica)", "[]", "[1 2 3]", "[<</Widths[1]/FirstChar 2>>]", "<</Widths[1]/FirstChar 2>>stream ", "<</BaseFont/Helvetica>>stream x", "4 0 R", "5 0 R", "6 0 R", "7 0 R", "8 0 R", "99 0 R", "0 0 R"} {
		checkOfWrong(t, f, obj(s), api.ErrType)
	}
	checkOfWrong(t, f, obj("3 0 R"), api.ErrCycle)
	checkOfWrong(t, store.File{}, ref(1), api.ErrType)
	d := obj("<</BaseFont/Helvetica>>").D
	for kind := -3; kind < 100; kind++ {
		o := api.Obj{Kind: kind, D: d, N: 99, S: "Helvetica"}
		if kind == api.Dict {
			checkOf(t, f, o, standard("Helvetica"), api.OK)
		} else {
			checkOfWrong(t, f, o, api.ErrType)
		}
		f.L[3].O = o
		if kind == api.Dict {
			checkOf(t, f, ref(4), standard("Helvetica"), api.OK)
		} else {
			checkOfWrong(t, f, ref(4), api.ErrType)
		}
	}
}

func TestOfNamed(t *testing.T) {
	f := leading()
	for _, widths := range []string{"", "/Widths null", "/Widths 4 0 R", "/Widths 99 0 R", "/Widths 0 0 R"} {
		for _, more := range []string{"", "/FirstChar 1", "/FirstChar 3 0 R", "/FirstChar/A", "/LastChar 999", "/Widthss[1]/widths[1]"} {
			for _, name := range standardNames {
				checkOf(t, f, obj("<<"+widths+more+"/BaseFont/"+name+">>"), standard(name), api.OK)
				g := leading()
				g.L[7].O.S = name
				for _, n := range []string{"8", "10"} {
					checkOf(t, g, obj("<</BaseFont "+n+" 0 R"+widths+more+">>"), standard(name), api.OK)
				}
			}
			// Unknown, none, and none that is a Name.
			for _, name := range []string{"/BaseFont/Arial", "/BaseFont/helvetica", "/BaseFont/Helvetic", "/BaseFont/Helvetica-Bold", "/BaseFont/", "/BaseFont/ABCDEF+Helvetica", "/BaseFont 9 0 R", "", "/Basefont/Helvetica", "/Name/Helvetica", "/BaseFont null", "/BaseFont 4 0 R", "/BaseFont 99 0 R", "/BaseFont(Helvetica)", "/BaseFont[/Helvetica]", "/BaseFont 7", "/BaseFont true", "/BaseFont<</BaseFont/Helvetica>>", "/BaseFont 1 0 R", "/BaseFont 5 0 R", "/BaseFont 7 0 R"} {
				checkOfWrong(t, f, obj("<<"+widths+more+name+">>"), api.ErrForm)
			}
			checkOfWrong(t, f, obj("<<"+widths+more+"/BaseFont 3 0 R>>"), api.ErrCycle)
		}
	}
	// A Widths that is there by its key alone.
	d := obj("<</BaseFont/Courier>>")
	d.D = append(d.D, api.Entry{Key: "Widths"})
	checkOf(t, f, d, standard("Courier"), api.OK)
	// A Name's other fields say nothing.
	for kind := -3; kind < 100; kind++ {
		d := api.Obj{Kind: api.Dict, D: []api.Entry{{Key: "BaseFont", V: api.Obj{Kind: kind, S: "Courier", N: 99, F: 1, L: []api.Obj{none}}}}}
		if kind == api.Name {
			checkOf(t, f, d, standard("Courier"), api.OK)
		} else {
			checkOfWrong(t, f, d, api.ErrForm)
		}
	}
}

// Widths that is there, and is no Arr.
func TestOfNoArr(t *testing.T) {
	f := leading()
	for _, s := range []string{"true", "7", "7.5", "/A", "(a)", "<<>>", "<</Widths[1]>>", "1 0 R", "2 0 R", "5 0 R", "8 0 R"} {
		checkOfWrong(t, f, obj("<</Widths "+s+"/FirstChar 1>>"), api.ErrForm)
		checkOfWrong(t, f, obj("<</Widths "+s+"/FirstChar 1/BaseFont/Helvetica>>"), api.ErrForm)
		checkOfWrong(t, f, obj("<</BaseFont/Helvetica/Widths "+s+">>"), api.ErrForm)
		checkOfWrong(t, f, obj("<</FirstChar 3 0 R/Widths "+s+">>"), api.ErrForm)
	}
	for kind := -3; kind < 100; kind++ {
		d := obj("<</FirstChar 1/BaseFont/Courier>>")
		d.D = append(d.D, api.Entry{Key: "Widths", V: api.Obj{Kind: kind, L: []api.Obj{cos.Int(5)}, N: 99}})
		switch kind {
		case api.Null, api.Ref: // of none
			checkOf(t, f, d, standard("Courier"), api.OK)
		case api.Arr:
			checkOf(t, f, d, font(1, 5), api.OK)
		default:
			checkOfWrong(t, f, d, api.ErrForm)
		}
	}
}

// How many widths there may be.
func TestOfLarge(t *testing.T) {
	for n := range 600 {
		if n > 5 && n < 250 || n > 260 && n < 509 {
			continue
		}
		want := font(3)
		s := ""
		for k := range n {
			want.Widths = append(want.Widths, k*7%5001)
			s += " " + strconv.Itoa(k*7%5001)
		}
		d := obj("<</FirstChar 3/Widths[" + s + "]>>")
		g := file("[" + s + "]")
		byRef := obj("<</FirstChar 3/Widths 1 0 R>>")
		if n <= 256 {
			checkOf(t, g, d, want, api.OK)
			checkOf(t, g, byRef, want, api.OK)
		} else {
			checkOfWrong(t, g, d, api.ErrLarge)
			checkOfWrong(t, g, byRef, api.ErrLarge)
		}
	}
	// Too many goes ahead of what they are.
	f := leading()
	for _, x := range []string{"null", "/A", "-1", "5001", "3 0 R", "0.5"} {
		checkOfWrong(t, f, obj("<</Widths["+strings.Repeat(x+" ", 257)+"]>>"), api.ErrLarge)
	}
	checkOfWrong(t, f, obj("<</FirstChar 3 0 R/Widths["+strings.Repeat("1 ", 257)+"]>>"), api.ErrLarge)
	checkOfWrong(t, f, obj("<</FirstChar -5/Widths["+strings.Repeat("1 ", 1024)+"]>>"), api.ErrLarge)
	far := api.Obj{Kind: api.Dict, D: []api.Entry{{Key: "Widths", V: arr(make([]api.Obj, 100000)...)}}}
	checkOfWrong(t, f, far, api.ErrLarge)
	far.D[0].V.L = far.D[0].V.L[:256]
	checkOfWrong(t, f, far, api.ErrForm)
}

// Objects of Widths that may not be, alone and in each place.
func TestOfWrongWidth(t *testing.T) {
	f := leading()
	for s, e := range map[string]api.Errno{
		"5001": api.ErrForm, "5000.001": api.ErrForm, "2147483": api.ErrForm, "-1": api.ErrForm, "-5000": api.ErrForm, "-0.001": api.ErrForm, "-1000": api.ErrForm, "0.5": api.ErrForm, "0.001": api.ErrForm, "1.001": api.ErrForm, "277.999": api.ErrForm, "4999.999": api.ErrForm, "-.5": api.ErrForm,
		"null": api.ErrForm, "true": api.ErrForm, "/A": api.ErrForm, "(5)": api.ErrForm, "[5]": api.ErrForm, "[]": api.ErrForm, "<<>>": api.ErrForm, "<</A 5>>": api.ErrForm,
		"1 0 R": api.ErrForm, "2 0 R": api.ErrForm, "4 0 R": api.ErrForm, "7 0 R": api.ErrForm, "8 0 R": api.ErrForm, "99 0 R": api.ErrForm,
		"3 0 R": api.ErrCycle,
	} {
		checkOfWrong(t, f, obj("<</FirstChar 1/Widths["+s+"]>>"), e)
		for n := range 4 {
			l := strings.Repeat(" 5", n) + " " + s + strings.Repeat(" 6 0 R", 3-n)
			checkOfWrong(t, f, obj("<</FirstChar 1/Widths["+l+"]>>"), e)
			// The first one that is wrong counts, and goes ahead of FirstChar.
			checkOfWrong(t, f, obj("<</FirstChar 1/Widths["+l+" 3 0 R]>>"), e)
			checkOfWrong(t, f, obj("<</FirstChar 1/Widths["+l+" -1]>>"), e)
			checkOfWrong(t, f, obj("<</FirstChar 3 0 R/Widths["+l+"]>>"), e)
			checkOfWrong(t, f, obj("<</FirstChar/A/Widths["+l+"]>>"), e)
			checkOfWrong(t, f, obj("<</BaseFont/Courier/Widths["+l+"]>>"), e)
		}
		checkOfWrong(t, f, obj("<</FirstChar 1/Widths["+strings.Repeat("1 ", 255)+s+"]>>"), e)
	}
}

// Numbers of any size, and other fields of any kind.
func TestOfAnyNumber(t *testing.T) {
	check := func(n api.Fix) {
		t.Helper()
		for _, whole := range []int{0, 1, 2, -1} {
			o := api.Obj{Kind: api.Num, F: n, N: whole}
			d := api.Obj{Kind: api.Dict, D: []api.Entry{{Key: "Widths", V: arr(o)}, {Key: "FirstChar", V: cos.Int(9)}}}
			want, e := wantOf(store.File{}, d)
			checkOf(t, store.File{}, d, want, e)
			d = api.Obj{Kind: api.Dict, D: []api.Entry{{Key: "Widths", V: arr()}, {Key: "FirstChar", V: o}}}
			want, e = wantOf(store.File{}, d)
			checkOf(t, store.File{}, d, want, e)
		}
	}
	for n := api.Fix(-1100); n < 1100; n++ {
		for _, around := range []api.Fix{0, 255000, 5000000, 256000, api.MaxFix, -api.MaxFix, -5000000} {
			check(around + n)
		}
		check(math.MaxInt - n - 1100)
		check(math.MinInt + n + 1100)
		check(n * 1000)
		check((5000 + n) * 1000)
		check(n << 53)
	}
	o := api.Obj{Kind: api.Num, F: 7000, N: 1, S: "x", L: []api.Obj{none}, D: []api.Entry{{}}}
	d := api.Obj{Kind: api.Dict, S: "x", N: 5, L: []api.Obj{none}, D: []api.Entry{{Key: "Widths", V: arr(o, o)}, {Key: "FirstChar", V: o}}}
	checkOf(t, store.File{}, d, font(7, 7, 7), api.OK)
	// Of another kind just these fields are no number.
	for kind := -3; kind < 100; kind++ {
		if kind == api.Num {
			continue
		}
		o.Kind = kind
		checkOfWrong(t, store.File{}, cos.Set(d, "FirstChar", o), api.ErrForm)
		checkOfWrong(t, store.File{}, cos.Set(d, "Widths", arr(cos.Int(1), o)), api.ErrForm)
	}
}

func TestOfFirstChar(t *testing.T) {
	f := leading()
	for n := range 256 {
		s := strconv.Itoa(n)
		checkOf(t, f, obj("<</Widths[1]/FirstChar "+s+">>"), font(n, 1), api.OK)
		checkOf(t, file(s, "1 0 R"), obj("<</Widths[1]/FirstChar 1 0 R>>"), font(n, 1), api.OK)
		checkOf(t, file(s, "1 0 R"), obj("<</Widths[1]/FirstChar 2 0 R>>"), font(n, 1), api.OK)
		checkOfWrong(t, f, obj("<</Widths[1]/FirstChar "+s+".0>>"), api.ErrForm)
		checkOfWrong(t, f, obj("<</Widths[1]/FirstChar "+s+".>>"), api.ErrForm)
	}
	for s, e := range map[string]api.Errno{
		"256": api.ErrForm, "257": api.ErrForm, "500": api.ErrForm, "2147483": api.ErrForm, "-1": api.ErrForm, "-255": api.ErrForm, "-2147483": api.ErrForm, "0.5": api.ErrForm, "65.0": api.ErrForm, "65.001": api.ErrForm, "254.999": api.ErrForm, "-0.001": api.ErrForm,
		"null": api.ErrForm, "true": api.ErrForm, "/A": api.ErrForm, "(65)": api.ErrForm, "[65]": api.ErrForm, "<</FirstChar 65>>": api.ErrForm,
		"1 0 R": api.ErrForm, "4 0 R": api.ErrForm, "5 0 R": api.ErrForm, "7 0 R": api.ErrForm, "9 0 R": api.ErrForm, "99 0 R": api.ErrForm,
		"3 0 R": api.ErrCycle,
	} {
		for _, widths := range []string{"[]", "[1 2 3]", "7 0 R", "[5 0 R]"} {
			checkOfWrong(t, f, obj("<</Widths "+widths+"/FirstChar "+s+">>"), e)
			checkOfWrong(t, f, obj("<</Widths "+widths+"/FirstChar "+s+"/BaseFont/Courier>>"), e)
		}
		// By a Ref.
		g := leading()
		g.L[7].O = obj(s)
		checkOfWrong(t, g, obj("<</Widths[1]/FirstChar 8 0 R>>"), e)
		checkOfWrong(t, g, obj("<</Widths[1]/FirstChar 10 0 R>>"), e)
	}
	for _, s := range []string{"<</Widths[1]>>", "<</Widths[]>>", "<</Widths 7 0 R/LastChar 9>>", "<</Widths[1]/firstChar 5>>", "<</Widths[1]/BaseFont/Helvetica>>"} {
		checkOfWrong(t, f, obj(s), api.ErrForm)
	}
	// Whole by its digits, but not by its number.
	for _, n := range []api.Fix{1, 500, 999, 1500, 254999} {
		d := cos.Set(obj("<</Widths[1]>>"), "FirstChar", api.Obj{Kind: api.Num, N: 1, F: n})
		checkOfWrong(t, f, d, api.ErrForm)
	}
}

// Of a key that stands there twice the first entry counts.
func TestOfTwice(t *testing.T) {
	d := api.Obj{Kind: api.Dict, D: []api.Entry{{Key: "Widths", V: obj("[1]")}, {Key: "FirstChar", V: cos.Int(2)}, {Key: "Widths", V: obj("[3]")}, {Key: "FirstChar", V: cos.Int(4)}}}
	checkOf(t, store.File{}, d, font(2, 1), api.OK)
	d = api.Obj{Kind: api.Dict, D: []api.Entry{{Key: "Widths"}, {Key: "Widths", V: obj("[3]")}, {Key: "BaseFont", V: cos.Word("Courier")}, {Key: "BaseFont", V: cos.Word("Helvetica")}}}
	checkOf(t, store.File{}, d, standard("Courier"), api.OK)
}

// Rows of Refs, up to where Resolve ends.
func TestOfRow(t *testing.T) {
	for refs, e := range map[int]api.Errno{1: api.OK, 62: api.OK, 63: api.OK, 64: api.ErrCycle, 65: api.ErrCycle} {
		for last, asked := range map[string]string{
			"<</Widths[3]/FirstChar 9>>": "1 0 R",
			"[3]":                        "<</FirstChar 9/Widths 1 0 R>>",
			"3":                          "<</FirstChar 9/Widths[1 0 R]>>",
			"9":                          "<</FirstChar 1 0 R/Widths[3]>>",
			"/Courier":                   "<</BaseFont 1 0 R>>",
		} {
			f := store.File{L: []store.Numbered{{N: refs + 1, O: obj(last)}}}
			for n := 1; n <= refs; n++ {
				f.L = append(f.L, store.Numbered{N: n, O: ref(n + 1)})
			}
			want := font(9, 3)
			if last == "/Courier" {
				want = standard("Courier")
			}
			if e != api.OK {
				want = Font{}
			}
			checkOf(t, f, obj(asked), want, e)
		}
	}
	// An object that stands in itself, by a Ref, is gone into no deeper than is asked.
	f := file("<</Widths 2 0 R/FirstChar 1>>", "[2 0 R 1 0 R]")
	checkOfWrong(t, f, ref(1), api.ErrForm)
	f = file("<</BaseFont 1 0 R/Widths 1 0 R>>")
	checkOfWrong(t, f, ref(1), api.ErrForm)
	f = file("<</BaseFont 1 0 R>>")
	checkOfWrong(t, f, ref(1), api.ErrForm)
	f = file("2 0 R", "1 0 R")
	checkOfWrong(t, f, ref(1), api.ErrCycle)
	checkOfWrong(t, f, obj("<</Widths[1 2 0 R]/FirstChar 1>>"), api.ErrCycle)
}

// Which of two errors comes first.
func TestOfOrder(t *testing.T) {
	f := leading()
	many := strings.Repeat("-1 ", 257)
	for s, e := range map[string]api.Errno{
		"<</Widths 3 0 R/BaseFont/Courier/FirstChar 7>>": api.ErrCycle,
		"<</Widths 3 0 R/BaseFont 7/FirstChar/A>>":       api.ErrCycle,
		"<</BaseFont 3 0 R/FirstChar/A>>":                api.ErrCycle,
		"<</BaseFont(x)/FirstChar 3 0 R>>":               api.ErrForm,
		"<</BaseFont/x/FirstChar 3 0 R>>":                api.ErrForm,
		"<</Widths/A/BaseFont 3 0 R/FirstChar 3 0 R>>":   api.ErrForm,
		"<</Widths[" + many + "]/BaseFont 3 0 R>>":       api.ErrLarge,
		"<</Widths[" + many + "3 0 R]/FirstChar 3 0 R>>": api.ErrLarge,
		"<</Widths[3 0 R -1]/FirstChar 7>>":              api.ErrCycle,
		"<</Widths[-1 3 0 R]/FirstChar 7>>":              api.ErrForm,
		"<</Widths[1 2 3 0 R 4 null]/FirstChar 7>>":      api.ErrCycle,
		"<</Widths[1 2 null 4 3 0 R]/FirstChar 7>>":      api.ErrForm,
		"<</Widths[null]/FirstChar 3 0 R>>":              api.ErrForm,
		"<</Widths[3 0 R]/FirstChar/A>>":                 api.ErrCycle,
		"<</Widths[1]/FirstChar 3 0 R/BaseFont 5>>":      api.ErrCycle,
		"<</Widths[1]/FirstChar 300/BaseFont 3 0 R>>":    api.ErrForm,
		"<</FirstChar 300/Widths null/BaseFont 3 0 R>>":  api.ErrCycle,
	} {
		checkOfWrong(t, f, obj(s), e)
	}
}
