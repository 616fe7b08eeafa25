package store

import (
	"bytes"
	"compress/zlib"
	"slices"
	"strings"
	"testing"

	"inkstand/api"
	"inkstand/deflate"
)

// P9.4

// pressed is a text pressed so many times, by Go's library.
func pressed(s string, times int) string {
	for range times {
		var out bytes.Buffer
		w := zlib.NewWriter(&out)
		w.Write([]byte(s))
		w.Close()
		s = out.String()
	}
	return s
}

const text = "q 1 0 0 1 0 0 cm Q\r\n\x00\xff"

func TestData(t *testing.T) {
	f := file("<<>>", one(1, 0, "/FlateDecode"), one(2, 0, "1 0 R"), one(3, 0, "[/Fl]"), one(4, 0, "[1 0 R 2 0 R]"), one(5, 0, "null"), one(6, 0, "[]"))
	for _, x := range []struct {
		dict  string
		times int
	}{
		// None.
		{"<<>>", 0}, {"<</Length 5>>", 0}, {"<</Filter[]>>", 0}, {"<</Filter 5 0 R>>", 0}, {"<</Filter 6 0 R>>", 0}, {"<</Filter 99 0 R>>", 0}, {"<</F/Fl/filter/Fl>>", 0},
		// One, by its name, and by what leads to it.
		{"<</Filter/FlateDecode>>", 1}, {"<</Filter/Fl>>", 1}, {"<</Filter[/FlateDecode]>>", 1}, {"<</Filter[/Fl]>>", 1}, {"<</Filter 1 0 R>>", 1}, {"<</Filter 2 0 R>>", 1}, {"<</Filter 3 0 R>>", 1}, {"<</Filter[1 0 R]>>", 1}, {"<</Filter[2 7 R]>>", 1},
		// More, up to eight.
		{"<</Filter[/Fl/FlateDecode]>>", 2}, {"<</Filter 4 0 R>>", 2}, {"<</Filter[/Fl 1 0 R 2 0 R]>>", 3}, {"<</Filter[/Fl/Fl/Fl/Fl/Fl/Fl/Fl]>>", 7}, {"<</Filter[/Fl/Fl/Fl/Fl/Fl/Fl/Fl/Fl]>>", 8}, {"<</Filter[1 0 R/Fl/Fl/Fl/Fl/FlateDecode/Fl 2 0 R]>>", 8},
		// DecodeParms that are Null; other entries say nothing.
		{"<</DecodeParms 5 0 R/Filter/Fl>>", 1}, {"<</DecodeParms 99 0 R>>", 0}, {"<</DP<<>>/Decode[1]/Filter/Fl/Length 0/Subtype 7>>", 1},
	} {
		for _, s := range []string{text, "", "a", strings.Repeat("ab", 10000)} {
			data := pressed(s, x.times)
			checkData(t, f, stream(x.dict, data), s, api.OK)
			// The same by a Ref, and by a row of these.
			g, _ := Put(f, 8, stream(x.dict, data))
			g, _ = Put(g, 9, ref(8))
			checkData(t, g, ref(8), s, api.OK)
			checkData(t, g, ref(9), s, api.OK)
			if x.times > 0 {
				// What stands behind pressed bytes says nothing.
				checkData(t, f, stream(x.dict, data+"x"), s, api.OK)
			}
		}
	}
	for kind := range 2 {
		b, _ := deflate.Zlib([]byte(text), kind)
		checkData(t, f, stream("<</Filter/Fl>>", string(b)), text, api.OK)
	}
	// By numbers: the one of the chapter of inflate.
	checkData(t, File{}, stream("<</Filter/FlateDecode>>", "\x78\x9c\x4b\x04\x00\x00\x62\x00\x62"), "a", api.OK)
	// Fields that a Stream has not say nothing.
	checkData(t, File{}, api.Obj{Kind: api.Stream, N: 7, F: -1, S: text, L: []api.Obj{obj("/Fl")}}, text, api.OK)
	// As many bytes as there are, where nothing is pressed, and as many as inflate tells.
	checkData(t, File{}, stream("<<>>", strings.Repeat("x", 1<<20+1)), strings.Repeat("x", 1<<20+1), api.OK)
	checkData(t, File{}, stream("<</Filter/Fl>>", pressed(strings.Repeat("x", 1<<20), 1)), strings.Repeat("x", 1<<20), api.OK)
	checkData(t, File{}, stream("<</Filter/Fl>>", pressed(strings.Repeat("x", 1<<20+1), 1)), "", api.ErrLarge)
}

// What is no Stream.
func TestDataType(t *testing.T) {
	f := file("<<>>", one(1, 0, "<</Filter/Fl>>"), one(2, 0, "(x)"), one(3, 0, "1 0 R"), one(4, 0, "4 0 R"))
	for _, s := range []string{"null", "true", "7", "/Fl", "(x)", "[]", "<<>>", "<</DecodeParms 5>>", "<</Filter/X>>", "<</Filter 4 0 R>>", "1 0 R", "2 0 R", "3 0 R", "99 0 R", "0 0 R"} {
		checkData(t, f, obj(s), "", api.ErrType)
	}
	for _, o := range []api.Obj{{Kind: 9, S: "x"}, {Kind: -8, S: "x"}, {Kind: api.Str, S: "x", D: obj("<</Filter/Fl>>").D}} {
		checkData(t, f, o, "", api.ErrType)
		checkData(t, File{}, o, "", api.ErrType)
	}
	checkData(t, f, ref(4), "", api.ErrCycle)
}

// Each error ahead of all that are met later.
func TestDataOrder(t *testing.T) {
	f := file("<<>>", one(1, 0, "/Fl"), one(2, 0, "/X"), one(3, 0, "7"), one(4, 0, "4 0 R"), one(5, 0, "[1 0 R 4 0 R]"), one(6, 0, "<<>>"), one(7, 0, "null"))
	once, twice := pressed(text, 1), pressed(text, 2)
	for _, x := range []struct {
		dict, data string
		e          api.Errno
	}{
		// DecodeParms, ahead of the Filter.
		{"<</DecodeParms<<>>>>", text, api.ErrFilter}, {"<</DecodeParms[]>>", text, api.ErrFilter}, {"<</DecodeParms[null]/Filter/Fl>>", once, api.ErrFilter}, {"<</DecodeParms false/Filter/Fl>>", once, api.ErrFilter}, {"<</DecodeParms 6 0 R/Filter/Fl>>", once, api.ErrFilter}, {"<</Filter/Fl/DecodeParms<</Predictor 1>>>>", once, api.ErrFilter}, {"<</DecodeParms 0>>", "", api.ErrFilter},
		{"<</DecodeParms 4 0 R>>", text, api.ErrCycle}, {"<</DecodeParms 4 0 R/Filter/X>>", text, api.ErrCycle}, {"<</Filter/X/DecodeParms 4 0 R>>", text, api.ErrCycle},
		{"<</DecodeParms<<>>/Filter 4 0 R>>", text, api.ErrFilter}, {"<</Filter[4 0 R]/DecodeParms<<>>>>", text, api.ErrFilter}, {"<</Filter[0 0 0 0 0 0 0 0 0]/DecodeParms<<>>>>", text, api.ErrFilter}, {"<</DecodeParms 7 0 R/Filter 4 0 R>>", text, api.ErrCycle},
		// A Filter of another kind.
		{"<</Filter 4 0 R>>", text, api.ErrCycle}, {"<</Filter 7>>", text, api.ErrFilter}, {"<</Filter(Fl)>>", once, api.ErrFilter}, {"<</Filter true>>", text, api.ErrFilter}, {"<</Filter<</Fl/Fl>>>>", once, api.ErrFilter}, {"<</Filter<<>>>>", once, api.ErrFilter}, {"<</Filter 3 0 R>>", text, api.ErrFilter},
		// Another name.
		{"<</Filter/X>>", text, api.ErrFilter}, {"<</Filter/>>", text, api.ErrFilter}, {"<</Filter/fl>>", once, api.ErrFilter}, {"<</Filter/FlateDecod>>", once, api.ErrFilter}, {"<</Filter/FlateDecode2>>", once, api.ErrFilter}, {"<</Filter/F>>", once, api.ErrFilter}, {"<</Filter/Fla>>", once, api.ErrFilter}, {"<</Filter/LZWDecode>>", text, api.ErrFilter}, {"<</Filter/ASCIIHexDecode>>", "41>", api.ErrFilter}, {"<</Filter[/X]>>", text, api.ErrFilter}, {"<</Filter 2 0 R>>", text, api.ErrFilter}, {"<</Filter[2 0 R]>>", text, api.ErrFilter}, {"<</Filter/Crypt>>", "", api.ErrFilter},
		// No name in an Arr.
		{"<</Filter[7]>>", text, api.ErrFilter}, {"<</Filter[null]>>", text, api.ErrFilter}, {"<</Filter[[/Fl]]>>", once, api.ErrFilter}, {"<</Filter[(Fl)]>>", once, api.ErrFilter}, {"<</Filter[99 0 R]>>", text, api.ErrFilter}, {"<</Filter[3 0 R]>>", text, api.ErrFilter}, {"<</Filter[7 0 R]>>", text, api.ErrFilter}, {"<</Filter[5 0 R]>>", twice, api.ErrFilter}, {"<</Filter[4 0 R]>>", text, api.ErrCycle},
		// More than eight, ahead of what is wrong with one of them.
		{"<</Filter[/Fl/Fl/Fl/Fl/Fl/Fl/Fl/Fl/Fl]>>", pressed(text, 9), api.ErrLarge}, {"<</Filter[/Fl/Fl/Fl/Fl/Fl/Fl/Fl/Fl/Fl]>>", text, api.ErrLarge}, {"<</Filter[/X/Fl/Fl/Fl/Fl/Fl/Fl/Fl/Fl]>>", text, api.ErrLarge}, {"<</Filter[0 0 0 0 0 0 0 0 0 0]>>", text, api.ErrLarge}, {"<</Filter[4 0 R 4 0 R 4 0 R 4 0 R 4 0 R 4 0 R 4 0 R 4 0 R 4 0 R]>>", text, api.ErrLarge},
		{"<</Filter[0 0 0 0 0 0 0 0]>>", text, api.ErrFilter}, {"<</Filter[4 0 R 0 0 0 0 0 0 0]>>", text, api.ErrCycle},
		// Bytes that Zlib does not read.
		{"<</Filter/Fl>>", "", api.ErrShort}, {"<</Filter/Fl>>", "x", api.ErrShort}, {"<</Filter/Fl>>", text, api.ErrForm}, {"<</Filter/Fl>>", once[:len(once)-1], api.ErrShort}, {"<</Filter/Fl>>", once[:len(once)-1] + "\x00", api.ErrForm}, {"<</Filter[/Fl/Fl]>>", once, api.ErrForm}, {"<</Filter[/Fl/Fl]>>", pressed("", 1), api.ErrShort}, {"<</Filter[/Fl/Fl/Fl/Fl/Fl/Fl/Fl/Fl]>>", pressed(text, 7), api.ErrForm},
		// Filters in order, each looked for behind what the one ahead did.
		{"<</Filter[/Fl/X]>>", text, api.ErrForm}, {"<</Filter[/Fl/X]>>", once, api.ErrFilter}, {"<</Filter[/X/Fl]>>", once, api.ErrFilter}, {"<</Filter[/X/Fl]>>", text, api.ErrFilter}, {"<</Filter[/Fl 4 0 R]>>", "", api.ErrShort}, {"<</Filter[/Fl 4 0 R]>>", once, api.ErrCycle}, {"<</Filter[/X 4 0 R]>>", once, api.ErrFilter}, {"<</Filter[4 0 R/X]>>", once, api.ErrCycle}, {"<</Filter[7 4 0 R]>>", once, api.ErrFilter}, {"<</Filter[/Fl 7]>>", text, api.ErrForm}, {"<</Filter[/Fl 7]>>", once, api.ErrFilter}, {"<</Filter[/Fl 99 0 R]>>", once, api.ErrFilter}, {"<</Filter 5 0 R>>", once, api.ErrCycle}, {"<</Filter 5 0 R>>", text, api.ErrForm}, {"<</Filter[/Fl/Fl/X]>>", once, api.ErrForm}, {"<</Filter[/Fl/Fl/X]>>", twice, api.ErrFilter},
	} {
		checkData(t, f, stream(x.dict, x.data), "", x.e)
		g, _ := Put(f, 8, stream(x.dict, x.data))
		checkData(t, g, ref(8), "", x.e)
	}
}

// A row of Refs for each of the things that are looked for.
func TestDataRow(t *testing.T) {
	data := pressed(text, 1)
	for refs, right := range map[int]bool{62: true, 63: true, 64: false, 65: false} {
		want, e := text, api.OK
		if !right {
			want, e = "", api.ErrCycle
		}
		checkData(t, row(refs, "/Fl"), stream("<</Filter 1 0 R>>", data), want, e)
		checkData(t, row(refs, "/Fl"), stream("<</Filter[1 0 R]>>", data), want, e)
		checkData(t, row(refs, "[/Fl]"), stream("<</Filter 1 0 R>>", data), want, e)
		checkData(t, row(refs, "null"), stream("<</Filter/Fl/DecodeParms 1 0 R>>", data), want, e)
		f := row(refs, "null")
		f.L[refs].O = stream("<</Filter/Fl>>", data)
		checkData(t, f, ref(1), want, e)
	}
}

// Objects that hold themselves, through a list that they share.
func TestDataHeld(t *testing.T) {
	l := make([]api.Obj, 1)
	l[0] = arr(l...)
	l[0].L = l
	d := make([]api.Entry, 2)
	held := api.Obj{Kind: api.Stream, D: d, S: "x"}
	d[0] = api.Entry{Key: "Filter", V: l[0]}
	d[1] = api.Entry{Key: "A", V: held}
	if b, e := Data(File{L: []Numbered{{N: 1, O: held}}}, ref(1)); len(b) > 0 || e != api.ErrFilter {
		t.Error(b, e)
	}
	d[0].V = held
	if b, e := Data(File{Trailer: held}, held); len(b) > 0 || e != api.ErrFilter {
		t.Error(b, e)
	}
	f, e := Put(File{L: []Numbered{{N: 1, O: held}}}, 2, l[0])
	if o, _ := Entry(f, ref(1), "A"); o.Kind != api.Stream || e != api.OK {
		t.Error(o.Kind, e)
	}
	if !slices.Equal([]int{f.L[0].N, f.L[1].N}, []int{1, 2}) {
		t.Error(f.L[0].N, f.L[1].N)
	}
}
