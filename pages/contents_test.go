package pages

import (
	"testing"

	"inkstand/api"
	"inkstand/deflate"
	"inkstand/store"
)

// P10.4

// pressed is a Stream whose filter tells a text.
func pressed(s string) api.Obj {
	b, e := deflate.Zlib([]byte(s), 1)
	if e != api.OK {
		panic(e)
	}
	return api.Obj{Kind: api.Stream, D: obj("<</Filter/FlateDecode>>").D, S: string(b)}
}

// streams is a file: 1 and 2 Streams, 3 one that is pressed, 4 a Ref to 1, 5 a ring, 6 null, 7 and 8 Streams that tell nothing, 9 to 13 ones whose bytes can't be told or are empty, 14 on Arrs of these.
func streams() store.File {
	f := file("<<>>stream abc", "<<>>stream d e\n", "7", "1 0 R", "5 0 R", "null", "<</Filter/X>>stream abc", "<</Filter/Fl>>stream ", "<<>>stream ", "<</DecodeParms 5 0 R>>stream x", "<</Filter[5 0 R]>>stream x", "[1 0 R 2 0 R]", "12 0 R", "[[1 0 R]]", "<</Contents 1 0 R>>", "15 0 R", "<</Filter[/Fl/Fl/Fl/Fl/Fl/Fl/Fl/Fl/Fl]>>stream x")
	f.L[2].O = pressed("pressed")
	return f
}

func TestContents(t *testing.T) {
	f := streams()
	for s, want := range map[string]string{
		// None.
		"<<>>": "", "<</contents 1 0 R>>": "", "<</Contents 6 0 R>>": "", "<</Contents 99 0 R>>": "",
		// A Stream.
		"<</Contents 1 0 R>>": "abc", "<</Contents 2 0 R>>": "d e\n", "<</Contents 3 0 R>>": "pressed", "<</Contents 4 0 R>>": "abc", "<</Contents 9 0 R>>": "",
		// An Arr.
		"<</Contents[]>>": "", "<</Contents[1 0 R]>>": "abc", "<</Contents[3 0 R]>>": "pressed", "<</Contents[1 0 R 2 0 R]>>": "abc\nd e\n", "<</Contents[2 0 R 1 0 R]>>": "d e\n\nabc", "<</Contents 12 0 R>>": "abc\nd e\n", "<</Contents 13 0 R>>": "abc\nd e\n",
		"<</Contents[3 0 R 4 0 R 1 0 R 3 0 R]>>": "pressed\nabc\nabc\npressed", "<</Contents[9 0 R]>>": "", "<</Contents[9 0 R 9 0 R]>>": "\n", "<</Contents[9 0 R 9 0 R 9 0 R]>>": "\n\n", "<</Contents[9 0 R 1 0 R]>>": "\nabc", "<</Contents[1 0 R 9 0 R]>>": "abc\n", "<</Contents[1 0 R 1 0 R 1 0 R]>>": "abc\nabc\nabc",
		// What leads to a page, and what is none.
		"15 0 R": "abc", "16 0 R": "abc", "null": "", "6 0 R": "", "99 0 R": "", "7": "", "/Contents": "", "(a)": "", "[1 0 R]": "", "12 0 R": "", "1 0 R": "", "true": "",
	} {
		checkContents(t, f, obj(s), want, api.OK)
	}
	// Entries of a Stream, and of what has none.
	checkContents(t, f, obj("<</Contents 2 0 R>>stream xyz"), "d e\n", api.OK)
	checkContents(t, f, api.Obj{Kind: 99, D: obj("<</Contents 5 0 R>>").D}, "", api.OK)
	checkContents(t, f, api.Obj{Kind: api.Arr, D: obj("<</Contents 5 0 R>>").D}, "", api.OK)
	checkContents(t, store.File{}, none, "", api.OK)
	// A Stream that stands in the page itself, and in the Arr.
	in := api.Obj{Kind: api.Dict, D: []api.Entry{{Key: "Contents", V: pressed("in")}}}
	checkContents(t, f, in, "in", api.OK)
	in.D[0].V = arr(pressed("in"), ref(1), pressed("out"))
	checkContents(t, f, in, "in\nabc\nout", api.OK)
	// The first one of two entries.
	in.D = []api.Entry{{Key: "Contents", V: ref(1)}, {Key: "Contents", V: ref(5)}}
	checkContents(t, f, in, "abc", api.OK)
	in.D[0].V = none
	checkContents(t, f, in, "", api.OK)
}

func TestContentsWrong(t *testing.T) {
	f := streams()
	for s, e := range map[string]api.Errno{
		// Another kind.
		"<</Contents 7>>": api.ErrType, "<</Contents/A>>": api.ErrType, "<</Contents(abc)>>": api.ErrType, "<</Contents true>>": api.ErrType, "<</Contents<<>>>>": api.ErrType, "<</Contents 15 0 R>>": api.ErrType,
		// In an Arr, as store.Data tells.
		"<</Contents[null]>>": api.ErrType, "<</Contents[7]>>": api.ErrType, "<</Contents[6 0 R]>>": api.ErrType, "<</Contents[99 0 R]>>": api.ErrType, "<</Contents[(abc)]>>": api.ErrType, "<</Contents[[]]>>": api.ErrType, "<</Contents[12 0 R]>>": api.ErrType, "<</Contents 14 0 R>>": api.ErrType, "<</Contents[1 0 R 15 0 R]>>": api.ErrType, "<</Contents[1 0 R 2 0 R null]>>": api.ErrType,
		// Errors of store.
		"5 0 R": api.ErrCycle, "<</Contents 5 0 R>>": api.ErrCycle, "<</Contents[5 0 R]>>": api.ErrCycle, "<</Contents 7 0 R>>": api.ErrFilter, "<</Contents 8 0 R>>": api.ErrShort, "<</Contents 10 0 R>>": api.ErrCycle, "<</Contents 11 0 R>>": api.ErrCycle, "<</Contents 17 0 R>>": api.ErrLarge,
		// The first one.
		"<</Contents[5 0 R 7 0 R]>>": api.ErrCycle, "<</Contents[7 0 R 5 0 R]>>": api.ErrFilter, "<</Contents[1 0 R 8 0 R null 5 0 R]>>": api.ErrShort, "<</Contents[null 5 0 R]>>": api.ErrType, "<</Contents[5 0 R null]>>": api.ErrCycle, "<</Contents[17 0 R 8 0 R]>>": api.ErrLarge, "<</Contents[1 0 R 1 0 R 8 0 R]>>": api.ErrShort,
	} {
		checkContents(t, f, obj(s), "", e)
		if _, err := wantContents(f, obj(s)); err != e {
			t.Errorf("%s: the document's words tell %v, not %v", s, err, e)
		}
	}
	for _, o := range []api.Obj{{Kind: 99}, {Kind: -1}, {Kind: api.Name, D: obj("<</A 1>>").D, S: "x"}} {
		checkContents(t, f, api.Obj{Kind: api.Dict, D: []api.Entry{{Key: "Contents", V: o}}}, "", api.ErrType)
		checkContents(t, f, api.Obj{Kind: api.Dict, D: []api.Entry{{Key: "Contents", V: arr(ref(1), o)}}}, "", api.ErrType)
	}
}

// Contents are a page's own: the page's Dict is asked, as it is.
func TestContentsOfPages(t *testing.T) {
	f := tree("<</Kids[3 0 R 4 0 R 5 0 R]/Contents 6 0 R>>", "<</Contents 6 0 R>>", "<<>>", "<</Contents[7 0 R 6 0 R]>>", "<<>>stream one", "<<>>stream two")
	l, e := Pages(f)
	if e != api.OK || len(l) != 3 {
		t.Fatal(l, e)
	}
	for i, want := range []string{"one", "", "two\none"} {
		checkContents(t, f, l[i].O, want, api.OK)
		checkContents(t, f, ref(l[i].N), want, api.OK)
	}
}

// What was told once is no part of what is told again.
func TestContentsNew(t *testing.T) {
	f := streams()
	for _, s := range []string{"<</Contents 1 0 R>>", "<</Contents[1 0 R]>>", "<</Contents[1 0 R 1 0 R]>>", "<</Contents[3 0 R]>>"} {
		p := obj(s)
		a, _ := Contents(f, p)
		before := string(a)
		b, _ := Contents(f, p)
		for i := range b {
			b[i] = '#'
		}
		if string(a) != before {
			t.Errorf("%s: %q became %q", s, before, a)
		}
	}
}
