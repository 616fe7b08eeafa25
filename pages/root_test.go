package pages

import (
	"testing"

	"inkstand/api"
	"inkstand/store"
)

// P10.2

func TestRoot(t *testing.T) {
	f := file("<</A 1/B 2 0 R>>", "1 0 R", "3 0 R", "[<<>>]", "null", "<<>>stream abc")
	for s, want := range map[string]string{
		"<</Root 1 0 R>>":                "<</A 1/B 2 0 R>>",
		"<</Root 1 77 R/Size 9/Prev 7>>": "<</A 1/B 2 0 R>>",
		"<</Root 2 0 R>>":                "<</A 1/B 2 0 R>>",
		"<</Root<</X 3 0 R>>>>":          "<</X 3 0 R>>",
		"<</Root<<>>>>":                  "<<>>",
	} {
		f.Trailer = obj(s)
		checkRoot(t, f, obj(want), api.OK)
	}
	// A trailer that leads to one, as store.Entry goes.
	f.L[3].O = obj("<</Root 1 0 R>>")
	f.Trailer = ref(4)
	checkRoot(t, f, f.L[0].O, api.OK)
	f.Trailer = obj("<</Root 1 0 R>>stream x")
	checkRoot(t, f, f.L[0].O, api.OK)
	// The first one of two.
	f.Trailer = api.Obj{Kind: api.Dict, D: []api.Entry{{Key: "Root", V: ref(1)}, {Key: "Root", V: ref(3)}}}
	checkRoot(t, f, f.L[0].O, api.OK)
}

func TestRootWrong(t *testing.T) {
	f := file("<</A 1>>", "1 0 R", "3 0 R", "[<<>>]", "null", "<<>>stream abc", "7")
	for s, e := range map[string]api.Errno{
		"<<>>": api.ErrType, "<</root 1 0 R>>": api.ErrType, "<</Roo 1 0 R/Root2 1 0 R>>": api.ErrType, "null": api.ErrType, "[1 0 R]": api.ErrType, "/Root": api.ErrType, "1 0 R": api.ErrType, "99 0 R": api.ErrType,
		"<</Root 4 0 R>>": api.ErrType, "<</Root 5 0 R>>": api.ErrType, "<</Root 6 0 R>>": api.ErrType, "<</Root 7 0 R>>": api.ErrType, "<</Root 99 0 R>>": api.ErrType, "<</Root 0 0 R>>": api.ErrType,
		"<</Root 7>>": api.ErrType, "<</Root true>>": api.ErrType, "<</Root/A>>": api.ErrType, "<</Root(a)>>": api.ErrType, "<</Root[<<>>]>>": api.ErrType,
		// Errors on the way.
		"<</Root 3 0 R>>": api.ErrCycle, "3 0 R": api.ErrCycle,
	} {
		f.Trailer = obj(s)
		checkRoot(t, f, none, e)
		checkWrong(t, f, e)
	}
	f.Trailer = api.Obj{Kind: api.Dict, D: []api.Entry{{Key: "Root", V: obj("<<>>stream x")}}}
	checkRoot(t, f, none, api.ErrType)
	f.Trailer.D[0].V = api.Obj{Kind: 99, D: obj("<</A 1>>").D}
	checkRoot(t, f, none, api.ErrType)
	f.Trailer.D[0].V = api.Obj{Kind: -1}
	checkRoot(t, f, none, api.ErrType)
	checkRoot(t, store.File{}, none, api.ErrType)
	checkWrong(t, store.File{}, api.ErrType)
}
