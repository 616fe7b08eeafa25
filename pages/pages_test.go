package pages

import (
	"fmt"
	"math"
	"strings"
	"testing"

	"inkstand/api"
	"inkstand/cos"
	"inkstand/store"
)

// P10.3: nodes.

// The chapter's example.
func TestExample(t *testing.T) {
	f := tree("<</Kids[3 0 R]>>", "<<>>")
	checkPages(t, f, []Page{{N: 3, O: obj("<<>>"), Res: obj("<<>>"), Box: api.Rect{X1: 612000, Y1: 792000}}}, api.OK)
}

// All of a file, from its bytes.
func TestFromBytes(t *testing.T) {
	s, table := "%PDF-1.7\n", "xref\n1 4\n"
	for i, o := range []string{
		"<</Type/Catalog/Pages 2 0 R>>",
		"<</Type/Pages/Count 2/Kids[4 0 R 3 0 R]/MediaBox[0 0 100 50.5]/Rotate -90>>",
		"<</Type/Page/Parent 2 0 R/Resources<</Font<<>>>>>>",
		"<</Type/Page/Parent 2 0 R/MediaBox[9 9 1 1]/Rotate 180>>",
	} {
		table += fmt.Sprintf("%010d 00000 n \n", len(s))
		s += fmt.Sprintf("%d 0 obj\n%s\nendobj\n", i+1, o)
	}
	s += fmt.Sprintf("%strailer<</Root 1 0 R>>\nstartxref\n%d\n%%%%EOF", table, len(s))
	f, e := store.Open([]byte(s))
	if e != api.OK {
		t.Fatal(e)
	}
	checkPages(t, f, []Page{
		{N: 4, O: f.L[3].O, Res: obj("<<>>"), Box: api.Rect{X0: 1000, Y0: 1000, X1: 9000, Y1: 9000}, Turn: 2},
		{N: 3, O: f.L[2].O, Res: obj("<</Font<<>>>>"), Box: api.Rect{X1: 100000, Y1: 50500}, Turn: 3},
	}, api.OK)
}

// What the first node, and what each kid, may be.
func TestNode(t *testing.T) {
	rest := []string{"3 0 R", "3 0 R", "null", "7", "/A", "(a)", "[5 0 R]", "<<>>stream x", "true", "13 0 R", "<</A 1>>", "99 0 R"}
	for s, e := range map[string]api.Errno{
		// No Ref.
		"null": api.ErrType, "7": api.ErrType, "/A": api.ErrType, "(a)": api.ErrType, "true": api.ErrType, "<<>>": api.ErrType, "<</Kids[]>>": api.ErrType, "[12 0 R]": api.ErrType, "[]": api.ErrType,
		// A Ref to no Dict.
		"5 0 R": api.ErrType, "6 0 R": api.ErrType, "7 0 R": api.ErrType, "8 0 R": api.ErrType, "9 0 R": api.ErrType, "10 0 R": api.ErrType, "11 0 R": api.ErrType, "14 0 R": api.ErrType, "99 0 R": api.ErrType, "0 0 R": api.ErrType,
		// To itself.
		"3 0 R": api.ErrCycle, "4 0 R": api.ErrCycle,
		// Right ones: of a Ref to a Ref the first one's number.
		"13 0 R": api.OK, "12 0 R": api.OK, "13 9 R": api.OK,
	} {
		o := obj(s)
		// 2 is the first node itself, and then one whose kid it is.
		first := tree(append([]string{"<<>>"}, rest...)...)
		first.L[0].O = cos.Set(obj("<<>>"), "Pages", o)
		kid := tree(append([]string{"<<>>"}, rest...)...)
		kid.L[1].O = api.Obj{Kind: api.Dict, D: []api.Entry{{Key: "Kids", V: arr(o)}}}
		for _, f := range []store.File{first, kid} {
			if e == api.OK {
				checkPages(t, f, []Page{{N: o.N, O: obj("<</A 1>>"), Res: obj("<<>>"), Box: api.Rect{X1: 612000, Y1: 792000}}}, api.OK)
				checkNumbers(t, f, o.N)
			} else {
				checkWrong(t, f, e)
			}
		}
	}
	checkWrong(t, file("<<>>"), api.ErrType)
	checkWrong(t, file("<</pages 2 0 R>>", "<<>>"), api.ErrType)
}

// Numbers of objects of any kind, where a file has such.
func TestNodeNumber(t *testing.T) {
	for _, n := range []int{0, -1, 5, 4096, math.MaxInt, math.MinInt} {
		f := store.File{Trailer: obj("<</Root<<>>>>")}
		f.Trailer.D[0].V = cos.Set(obj("<<>>"), "Pages", ref(n))
		checkWrong(t, f, api.ErrType)
		f.L = []store.Numbered{{N: n, O: obj("<</A 1>>")}, {N: n, O: obj("[]")}}
		checkNumbers(t, f, n)
	}
	// A Ref's other fields say nothing.
	f := tree("<<>>")
	f.L[0].O.D[0].V = api.Obj{Kind: api.Ref, N: 2, F: -7, S: "x", L: []api.Obj{none}, D: obj("<</A 1>>").D}
	checkNumbers(t, f, 2)
}

func TestCycle(t *testing.T) {
	for _, l := range [][]string{
		// A node that is its own kid, and longer rings.
		{"<</Kids[2 0 R]>>"},
		{"<</Kids[3 0 R 2 0 R]>>", "<<>>"},
		{"<</Kids[3 0 R]>>", "<</Kids[2 0 R]>>"},
		{"<</Kids[3 0 R]>>", "<</Kids[4 0 R]>>", "<</Kids[3 0 R]>>"},
		{"<</Kids[3 0 R]>>", "<</Kids[4 0 R]>>", "<</Kids[2 0 R]>>"},
		{"<</Kids[3 0 R]>>", "<</Kids[4 0 R 5 0 R]>>", "<<>>", "<</Kids[6 0 R 4 0 R]>>", "<<>>"},
		// A page that is named twice: by one node, by two, by a node and by one behind it.
		{"<</Kids[3 0 R 3 0 R]>>", "<<>>"},
		{"<</Kids[3 0 R 4 0 R 3 0 R]>>", "<<>>", "<<>>"},
		{"<</Kids[3 0 R 4 0 R]>>", "<</Kids[5 0 R]>>", "<</Kids[5 0 R]>>", "<<>>"},
		{"<</Kids[3 0 R 4 0 R]>>", "<</Kids[4 0 R]>>", "<<>>"},
		{"<</Kids[4 0 R 3 0 R]>>", "<</Kids[4 0 R]>>", "<<>>"},
		{"<</Kids[3 0 R 3 9 R]>>", "<<>>"},
		// A node without pages that is named twice.
		{"<</Kids[3 0 R 3 0 R]>>", "<</Kids[]>>"},
		{"<</Kids[3 0 R 4 0 R]>>", "<</Kids[5 0 R]>>", "<</Kids[5 0 R]>>", "<</Kids[]>>"},
		// Refs that lead in a ring by themselves.
		{"2 0 R"},
		{"3 0 R", "2 0 R"},
		{"<</Kids[3 0 R]>>", "4 0 R", "3 0 R"},
	} {
		checkWrong(t, tree(l...), api.ErrCycle)
	}
	// Kids that lead to their own node are no Arr.
	checkWrong(t, tree("<</Kids 2 0 R>>"), api.ErrType)
	// One object by two numbers is two pages, as each number is met once.
	checkNumbers(t, tree("<</Kids[3 0 R 4 0 R]>>", "4 0 R", "<<>>"), 3, 4)
	checkNumbers(t, tree("<</Kids[4 0 R 3 0 R]>>", "4 0 R", "<<>>"), 4, 3)
	// The Root may be a page, and its number a node's, as it was not met as one.
	checkNumbers(t, file("<</Pages 1 0 R>>"), 1)
	checkWrong(t, file("<</Pages 1 0 R/Kids[1 0 R]>>"), api.ErrCycle)
	// Answers of calls ahead say nothing.
	f := tree("<</Kids[3 0 R]>>", "<<>>")
	for range 3 {
		checkNumbers(t, f, 3)
	}
}

// chain is a first node, so many with it ahead of the last one, which is the object that a text is.
func chain(ahead int, last string) store.File {
	f := file("<</Pages 2 0 R>>")
	for n := 2; n < ahead+2; n++ {
		f.L = append(f.L, store.Numbered{N: n, O: cos.Set(obj("<<>>"), "Kids", arr(ref(n+1)))})
	}
	f.L = append(f.L, store.Numbered{N: ahead + 2, O: obj(last)})
	return f
}

func TestDeep(t *testing.T) {
	for ahead := range 130 {
		f := chain(ahead, "<<>>")
		if ahead <= 64 {
			checkNumbers(t, f, ahead+2)
		} else {
			checkWrong(t, f, api.ErrDeep)
		}
	}
	// So many ahead of a node that has no kids; of what is no Dict, and of what is no Ref.
	for ahead, e := range map[int]api.Errno{63: api.OK, 64: api.OK, 65: api.ErrDeep, 66: api.ErrDeep} {
		f := chain(ahead, "<</Kids[]>>")
		if e == api.OK {
			checkNumbers(t, f)
			checkWrong(t, chain(ahead, "7"), api.ErrType)
			checkWrong(t, chain(ahead, fmt.Sprint(ahead+2, " 0 R")), api.ErrCycle)
		} else {
			checkWrong(t, f, e)
			checkWrong(t, chain(ahead, "7"), e)
			checkWrong(t, chain(ahead, fmt.Sprint(ahead+2, " 0 R")), e)
		}
	}
	// The first node by another number: its kid was met already, but is looked at for its way ahead of that.
	checkWrong(t, chain(63, "2 0 R"), api.ErrCycle)
	checkWrong(t, chain(64, "2 0 R"), api.ErrDeep)
	f := chain(65, "<<>>")
	last := len(f.L) - 2
	// What is no Ref goes ahead of that, also where it has the number of a node that was met.
	for _, kind := range []int{-1, api.Null, api.Bool, api.Num, api.Name, api.Str, api.Arr, api.Dict, api.Stream, 9} {
		o := api.Obj{Kind: kind, N: 2}
		f.L[last].O = cos.Set(obj("<<>>"), "Kids", arr(o))
		checkWrong(t, f, api.ErrType)
		ring := tree("<</Kids[]>>", "<</Kids[]>>")
		ring.L[1].O = cos.Set(obj("<<>>"), "Kids", arr(ref(3), o))
		checkWrong(t, ring, api.ErrType)
	}
	f.L[last].O = obj("<</Kids[2 0 R]>>")
	checkWrong(t, f, api.ErrDeep)
	f.L[last].O = obj("<</Kids[]>>")
	checkNumbers(t, f)
	f.L[last].O = obj("<</Kids 7>>")
	checkWrong(t, f, api.ErrType)
}

// Rings of some length: the first node is met again behind so many.
func TestRing(t *testing.T) {
	for length := 1; length < 80; length++ {
		f := chain(length-1, "<</Kids[2 0 R]>>")
		if length <= 64 {
			checkWrong(t, f, api.ErrCycle)
		} else {
			checkWrong(t, f, api.ErrDeep)
		}
	}
}

// Just those on a page's own way are ahead of it.
func TestWide(t *testing.T) {
	f := file("<</Pages 2 0 R>>", "<<>>")
	var want []int
	f.L[1].O = cos.Set(obj("<<>>"), "Kids", refs(3, 200))
	for n := 3; n <= 200; n++ {
		kids := refs(2*n+1000, 2*n+1001)
		f.L = append(f.L, store.Numbered{N: n, O: cos.Set(obj("<<>>"), "Kids", kids)})
	}
	for n := 3; n <= 200; n++ {
		for _, page := range []int{2*n + 1000, 2*n + 1001} {
			f.L = append(f.L, store.Numbered{N: page, O: obj("<<>>")})
			want = append(want, page)
		}
	}
	checkNumbers(t, f, want...)
	// Two long ways, side by side; the second one is too long.
	long := chain(64, "<<>>")
	second := chain(64, "<<>>")
	for i := range second.L[2:] {
		one := &second.L[2+i]
		one.N += 1000
		if one.O.D != nil {
			one.O.D[0].V.L[0].N += 1000
		}
	}
	long.L[1].O = obj("<</Kids[3 0 R 1003 0 R]>>")
	long.L = append(long.L, second.L[2:]...)
	checkNumbers(t, long, 66, 1066)
	long.L[len(long.L)-1].O = obj("<</Kids[2066 0 R]>>")
	long.L = append(long.L, store.Numbered{N: 2066, O: obj("<<>>")})
	checkWrong(t, long, api.ErrDeep)
}

func TestKids(t *testing.T) {
	more := []string{"<</Id 3>>", "<</Id 4>>", "[4 0 R 3 0 R]", "5 0 R", "null", "8 0 R", "[]", "<<>>stream x", "7", "<</Kids[]>>"}
	for s, want := range map[string][]int{
		// Null: a page.
		"<<>>": {2}, "<</Kids 7 0 R>>": {2}, "<</Kids 99 0 R>>": {2}, "<</kids[3 0 R]/Type/Pages/Count 5>>": {2},
		// An Arr, and in its order; what its kids are called says nothing.
		"<</Kids[]>>": {}, "<</Kids 9 0 R>>": {}, "<</Kids[3 0 R]>>": {3}, "<</Kids[3 0 R 4 0 R]>>": {3, 4}, "<</Kids[4 0 R 3 0 R]/Type/Page/Count 77>>": {4, 3}, "<</Kids 5 0 R>>": {4, 3}, "<</Kids 6 0 R>>": {4, 3}, "<</Kids[4 0 R 12 0 R 3 0 R]>>": {4, 3}, "<</Kids[12 0 R]>>": {},
	} {
		checkNumbers(t, tree(append([]string{s}, more...)...), want...)
	}
	for s, e := range map[string]api.Errno{
		"<</Kids 7>>": api.ErrType, "<</Kids/A>>": api.ErrType, "<</Kids(a)>>": api.ErrType, "<</Kids true>>": api.ErrType, "<</Kids<<>>>>": api.ErrType, "<</Kids 3 0 R>>": api.ErrType, "<</Kids 10 0 R>>": api.ErrType, "<</Kids 11 0 R>>": api.ErrType,
		"<</Kids 8 0 R>>":                api.ErrCycle,
		"<</Kids[null]>>":                api.ErrType,
		"<</Kids[3 0 R null]>>":          api.ErrType,
		"<</Kids[3 0 R<<>>]>>":           api.ErrType,
		"<</Kids[3 0 R 5 0 R 3 0 R]>>":   api.ErrType,
		"<</Kids[3 0 R 3 0 R 5 0 R]>>":   api.ErrCycle,
		"<</Kids[[3 0 R]]>>":             api.ErrType,
		"<</Kids[3 0 R 8 0 R 5]>>":       api.ErrCycle,
		"<</Kids[3 0 R 5 8 0 R]>>":       api.ErrType,
		"<</Kids[12 0 R 4 0 R 12 0 R]>>": api.ErrCycle,
	} {
		checkWrong(t, tree(append([]string{s}, more...)...), e)
	}
	// Of two entries the first one counts.
	f := tree("<<>>", "<<>>")
	f.L[1].O.D = []api.Entry{{Key: "Kids"}, {Key: "Kids", V: arr(ref(3))}}
	checkNumbers(t, f, 2)
	f.L[1].O.D = []api.Entry{{Key: "Kids", V: arr(ref(3))}, {Key: "Kids", V: cos.Int(5)}}
	checkNumbers(t, f, 3)
}

// Ahead of each node's kids those of the nodes ahead of it.
func TestOrder(t *testing.T) {
	checkNumbers(t, tree("<</Kids[3 0 R 9 0 R 4 0 R]>>", "<</Kids[8 0 R 5 0 R 7 0 R]>>", "<<>>", "<</Kids[6 0 R]>>", "<</Kids[11 0 R 10 0 R]>>", "<<>>", "<<>>", "<</Kids[]>>", "<<>>", "<<>>"), 8, 11, 10, 7, 4)
	checkNumbers(t, tree("<</Kids[6 0 R 5 0 R 4 0 R 3 0 R]>>", "<<>>", "<<>>", "<<>>", "<<>>"), 6, 5, 4, 3)
	checkNumbers(t, tree("<</Kids[3 0 R 4 0 R]>>", "<</Kids[5 0 R 6 0 R]>>", "<</Kids[7 0 R 8 0 R]>>", "<<>>", "<<>>", "<<>>", "<<>>"), 5, 6, 7, 8)
}

// many is a file of so many pages, and of what texts tell behind them.
func many(count int, behind ...string) store.File {
	f := tree("<<>>")
	to := 2 + count + len(behind)
	f.L[1].O = cos.Set(obj("<<>>"), "Kids", refs(3, to))
	for n := 3; n <= to; n++ {
		s := "<<>>"
		if n > 2+count {
			s = behind[n-3-count]
		}
		f.L = append(f.L, store.Numbered{N: n, O: obj(s)})
	}
	return f
}

func TestLarge(t *testing.T) {
	for count, e := range map[int]api.Errno{1: api.OK, 1023: api.OK, 1024: api.OK, 1025: api.ErrLarge, 1026: api.ErrLarge, 1500: api.ErrLarge} {
		l, err := Pages(many(count))
		if want := count; e == api.OK && len(l) != want || e != api.OK && l != nil || err != e {
			t.Errorf("%d pages: %d %v", count, len(l), err)
		}
	}
	checkWrong(t, many(1025), api.ErrLarge)
	// One too many goes behind its own errors, and ahead of those of nodes behind it.
	for s, e := range map[string]api.Errno{
		"<</MediaBox 7>>": api.ErrForm, "<</Kids 7>>": api.ErrType, "7": api.ErrType, "<</Kids[]>>": api.OK, "<</Kids[3 0 R]>>": api.ErrCycle, "<</Kids[2000 0 R]>>": api.ErrType,
		"<</Resources 1027 0 R>>": api.ErrCycle, "<</Rotate 1027 0 R>>": api.ErrCycle, "1027 0 R": api.ErrCycle,
	} {
		f := many(1024, s)
		if strings.Contains(s, "1027") {
			f.L[1026].O = obj(strings.ReplaceAll(s, "1027", "2999"))
			f.L = append(f.L, store.Numbered{N: 2999, O: ref(2999)})
		}
		if l, err := Pages(f); err != e || e == api.OK && len(l) != 1024 || e != api.OK && l != nil {
			t.Errorf("1024 pages and %s: %d %v, not %v", s, len(l), err, e)
		}
		if e == api.OK {
			continue
		}
		if l, err := Pages(many(1025, s)); err != api.ErrLarge || l != nil {
			t.Errorf("1025 pages and %s: %d %v", s, len(l), err)
		}
	}
	// Nodes that are no pages don't count.
	f := many(1024)
	for n := 2000; n < 2500; n++ {
		f.L = append(f.L, store.Numbered{N: n, O: obj("<</Kids[]>>")})
		f.L[1].O.D[0].V.L = append(f.L[1].O.D[0].V.L, ref(n))
	}
	if l, err := Pages(f); err != api.OK || len(l) != 1024 {
		t.Error(len(l), err)
	}
}
