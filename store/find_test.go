package store

import (
	"math"
	"testing"

	"inkstand/api"
	"inkstand/cos"
)

// P9.2

// row is a file in which the objects from 1 on lead to one another, so many Refs and then the object that a text is.
func row(refs int, last string) File {
	f := File{Trailer: obj("<<>>")}
	for n := 1; n <= refs; n++ {
		f.L = append(f.L, Numbered{N: n, O: ref(n + 1)})
	}
	f.L = append(f.L, one(refs+1, 0, last))
	return f
}

func TestFind(t *testing.T) {
	f := file("<</A 1>>", one(1, 0, "(a)"), one(2, 7, "null"), one(5, 0, "[1]"), one(9, 0, "5 0 R"))
	for n, want := range map[int]api.Obj{1: obj("(a)"), 2: none, 5: obj("[1]"), 9: obj("5 0 R"), 0: none, 3: none, 4: none, 6: none, 10: none, -1: none, -5: none, 4096: none, math.MaxInt: none, math.MinInt: none} {
		checkFind(t, f, n, want)
		checkFind(t, File{}, n, none)
	}
	// The first one of those of a number, in any order, of any numbers.
	f = file("<<>>", one(7, 0, "(a)"), one(3, 0, "(b)"), one(7, 1, "(c)"), one(-2, 0, "(d)"), one(0, 0, "(e)"), one(3, 2, "(f)"), one(99999, 0, "(g)"), one(math.MinInt, 0, "(h)"))
	for n, want := range map[int]string{7: "(a)", 3: "(b)", -2: "(d)", 0: "(e)", 99999: "(g)", math.MinInt: "(h)"} {
		checkFind(t, f, n, obj(want))
	}
	// A first one that is Null hides the others.
	f = file("<<>>", one(1, 0, "null"), one(1, 0, "(a)"))
	checkFind(t, f, 1, none)
}

func TestResolve(t *testing.T) {
	f := file("<<>>", one(1, 0, "2 0 R"), one(2, 0, "3 9 R"), one(3, 0, "(a)"), one(4, 0, "null"), one(5, 0, "4 0 R"), one(6, 0, "77 0 R"), one(7, 7, "[1 0 R]"))
	// What is no Ref leads to itself, whatever it is.
	for _, s := range []string{"null", "true", "7", "7.5", "/A", "(a)", "[1 0 R]", "<</A 1 0 R>>"} {
		checkResolve(t, f, obj(s), obj(s), api.OK)
		checkResolve(t, File{}, obj(s), obj(s), api.OK)
	}
	for _, o := range []api.Obj{stream("<</A 1 0 R>>", "x"), {Kind: 99, N: 1}, {Kind: -1, S: "x"}, {Kind: api.Num, N: 5, F: 3}, {Kind: api.Str, N: 1, S: "a"}} {
		checkResolve(t, f, o, o, api.OK)
	}
	for n, want := range map[int]string{1: "(a)", 2: "(a)", 3: "(a)", 4: "null", 5: "null", 6: "null", 7: "[1 0 R]", 8: "null", 0: "null", -1: "null", math.MaxInt: "null"} {
		checkResolve(t, f, ref(n), obj(want), api.OK)
		// The generation says nothing, nor do fields that a Ref has not.
		checkResolve(t, f, api.Obj{Kind: api.Ref, N: n, F: -7, S: "x", L: []api.Obj{obj("5")}, D: obj("<</A 1>>").D}, obj(want), api.OK)
		checkResolve(t, File{}, ref(n), none, api.OK)
	}
	// Of two of a number the first one is led to.
	f = file("<<>>", one(2, 0, "1 0 R"), one(1, 0, "(a)"), one(2, 0, "(b)"), one(1, 0, "2 0 R"))
	checkResolve(t, f, ref(2), obj("(a)"), api.OK)
}

func TestResolveRow(t *testing.T) {
	for refs := range 140 {
		f := row(refs, "(a)")
		for from := 1; from <= refs+1; from++ {
			// The Ref that is handed in, and those that stand behind it.
			if all := 1 + refs - (from - 1); all <= 64 {
				checkResolve(t, f, ref(from), obj("(a)"), api.OK)
			} else {
				checkResolve(t, f, ref(from), none, api.ErrCycle)
			}
		}
	}
	// A row that ends by an object that isn't there is as long.
	for refs, e := range map[int]api.Errno{62: api.OK, 63: api.OK, 64: api.ErrCycle, 65: api.ErrCycle} {
		f := row(refs, "7")
		f.L = f.L[:refs]
		checkResolve(t, f, ref(1), none, e)
		f.L = append(f.L, one(refs+1, 0, "null"))
		checkResolve(t, f, ref(1), none, e)
	}
}

func TestResolveRing(t *testing.T) {
	f := file("<<>>", one(1, 0, "1 0 R"), one(2, 0, "3 0 R"), one(3, 0, "2 0 R"), one(4, 0, "2 0 R"), one(0, 0, "0 0 R"))
	for n := range 5 {
		checkResolve(t, f, ref(n), none, api.ErrCycle)
		checkEntry(t, f, ref(n), "A", none, api.ErrCycle)
		checkEntry(t, f, cos.Set(obj("<<>>"), "A", ref(n)), "A", none, api.ErrCycle)
		checkData(t, f, ref(n), "", api.ErrCycle)
	}
	for length := 1; length < 200; length++ {
		f := row(length-1, "1 0 R")
		for n := 1; n <= length; n++ {
			checkResolve(t, f, ref(n), none, api.ErrCycle)
		}
	}
}

func TestEntry(t *testing.T) {
	f := file("<</Root 1 0 R>>", one(1, 0, "<</A 5/B 3 0 R/C 9 0 R/D[3 0 R]/E 4 0 R/F 2 0 R>>"), one(2, 0, "1 0 R"), one(3, 0, "(b)"), one(4, 0, "4 0 R"), one(5, 0, "[<</A 1>>]"))
	f.L = append(f.L, Numbered{N: 6, O: stream("<</A 7/B 3 0 R>>", "x")})
	for key, want := range map[string]string{"A": "5", "B": "(b)", "C": "null", "D": "[3 0 R]", "X": "null", "": "null", "a": "null"} {
		for _, o := range []api.Obj{f.L[0].O, ref(1), ref(2)} {
			checkEntry(t, f, o, key, obj(want), api.OK)
		}
	}
	// An entry that leads to the object that it stands in.
	checkEntry(t, f, ref(1), "F", f.L[0].O, api.OK)
	checkEntry(t, f, f.Trailer, "Root", f.L[0].O, api.OK)
	checkEntry(t, f, ref(6), "A", obj("7"), api.OK)
	checkEntry(t, f, ref(6), "B", obj("(b)"), api.OK)
	checkEntry(t, f, f.L[5].O, "B", obj("(b)"), api.OK)
	// Errors: of the object, then of the entry.
	checkEntry(t, f, ref(1), "E", none, api.ErrCycle)
	checkEntry(t, f, ref(4), "A", none, api.ErrCycle)
	checkEntry(t, f, ref(4), "", none, api.ErrCycle)
	// What has no entries.
	for _, o := range []api.Obj{none, obj("7"), obj("/A"), obj("(A)"), obj("[/A 1]"), obj("true"), ref(3), ref(5), ref(99), {Kind: 99, D: obj("<</A 1>>").D}, {Kind: api.Arr, D: obj("<</A 1>>").D}, {Kind: api.Ref, N: 99, D: obj("<</A 1>>").D}} {
		checkEntry(t, f, o, "A", none, api.OK)
		checkEntry(t, File{}, o, "A", none, api.OK)
	}
	// A key that stands there twice: the first one counts.
	twice := api.Obj{Kind: api.Dict, D: []api.Entry{{Key: "A", V: ref(3)}, {Key: "A", V: ref(4)}}}
	checkEntry(t, f, twice, "A", obj("(b)"), api.OK)
	twice.D[0].V = none
	checkEntry(t, f, twice, "A", none, api.OK)
}

// Both ways of an entry may be a row.
func TestEntryRow(t *testing.T) {
	for _, x := range []struct {
		refs int
		e    api.Errno
	}{{63, api.OK}, {64, api.ErrCycle}, {65, api.ErrCycle}} {
		f := row(x.refs, "<</A 5>>")
		want := none
		if x.e == api.OK {
			want = obj("5")
		}
		checkEntry(t, f, ref(1), "A", want, x.e)
		if x.e == api.OK {
			want = obj("<</A 5>>")
		}
		checkEntry(t, f, obj("<</B 1 0 R>>"), "B", want, x.e)
		// One as long as may be behind another one.
		f = row(63, "<</B 1 0 R>>")
		checkEntry(t, f, ref(1), "B", obj("<</B 1 0 R>>"), api.OK)
	}
}
