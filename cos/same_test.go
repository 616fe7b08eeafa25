package cos

import (
	"maps"
	"math"
	"math/rand"
	"slices"
	"strconv"
	"strings"
	"testing"

	"inkstand/api"
)

// P4.4

// told is an object as a text, which is the same of those alone that are the same.
func told(o api.Obj) string {
	n := o.N
	if o.Kind == api.Num {
		n = 0
	}
	out := strconv.Itoa(o.Kind) + " " + strconv.Itoa(n) + " " + strconv.Itoa(int(o.F)) + strconv.Quote(o.S) + "["
	for _, k := range o.L {
		out += told(k) + ","
	}
	entries := map[string]string{}
	for _, e := range slices.Backward(o.D) {
		entries[e.Key] = told(e.V)
	}
	for _, key := range slices.Sorted(maps.Keys(entries)) {
		out += strconv.Quote(key) + entries[key]
	}
	return out + "]"
}

// checkSame asks in both orders, and of objects in which these stand.
func checkSame(t *testing.T, a, b api.Obj, want bool) {
	t.Helper()
	pairs := [][2]api.Obj{{a, b}, {arr(whole(1), a), arr(whole(1), b)}, {dict(entry("K", a)), dict(entry("K", b))}, {stream("s", entry("K", arr(a))), stream("s", entry("K", arr(b)))}, {dict(entry("L", a), entry("K", null)), dict(entry("K", null), entry("L", b))}}
	for _, p := range pairs {
		before := [2]api.Obj{copied(p[0]), copied(p[1])}
		if Same(p[0], p[1]) != want || Same(p[1], p[0]) != want {
			t.Errorf("Same(%v, %v): not %t", p[0], p[1], want)
		}
		if !equal(p[0], before[0]) || !equal(p[1], before[1]) {
			t.Errorf("Same changed %v", before)
		}
	}
}

func TestSame(t *testing.T) {
	a, b, c := entry("A", whole(1)), entry("B", text("b")), entry("C", dict(entry("x", null)))
	for _, x := range [][2]api.Obj{
		{null, null}, {truth(1), truth(1)}, {name("A"), name("A")}, {text("A"), text("A")}, {ref(1, 2), ref(1, 2)}, {stream("s", a), stream("s", a)}, {arr(null, null), arr(null, null)},
		{arr(), {Kind: api.Arr, L: []api.Obj{}}}, {dict(), {Kind: api.Dict, D: []api.Entry{}}},
		// Nums with and without a point, and with an N of any kind.
		{whole(5), pointed(5000)}, {whole(0), pointed(0)}, {pointed(-500), pointed(-500)}, {{Kind: api.Num, N: 7}, {Kind: api.Num, N: -7}}, {arr(whole(1), whole(2)), arr(pointed(1000), pointed(2000))},
		// Entries in another order.
		{dict(a, b), dict(b, a)}, {dict(a, b, c), dict(c, a, b)}, {stream("s", a, b), stream("s", b, a)}, {dict(entry("D", dict(a, b))), dict(entry("D", dict(b, a)))}, {arr(dict(a, b), dict(b, a)), arr(dict(b, a), dict(a, b))},
		// A key twice: its first one counts.
		{dict(a, entry("A", whole(2))), dict(a)}, {dict(a, b, a), dict(a, b)}, {dict(a, b, entry("A", null)), dict(b, a, entry("B", null))}, {dict(a, a, a), dict(a)}, {dict(b, a, entry("A", whole(2)), entry("A", whole(3))), dict(a, entry("A", whole(9)), b)}, {dict(entry("A", null), a), dict(entry("A", null), entry("A", whole(7)))},
		{strange(9), strange(9)}, {strange(api.Null), strange(api.Null)}, {strange(math.MinInt), strange(math.MinInt)},
	} {
		checkSame(t, x[0], x[1], true)
	}
}

func TestNotSame(t *testing.T) {
	a, b := entry("A", whole(1)), entry("B", text("b"))
	for _, x := range [][2]api.Obj{
		{null, truth(0)}, {whole(1), truth(1)}, {name("A"), text("A")}, {arr(), dict()}, {dict(a), stream("", a)}, {null, arr()}, {null, dict()}, {null, {Kind: 9}}, {{Kind: -1}, {Kind: 9}}, {ref(1, 0), whole(1)},
		{truth(0), truth(1)}, {name("A"), name("a")}, {name("A"), name("")}, {text("A"), text("A ")}, {text("\xff"), text("\xfe")}, {whole(1), whole(-1)}, {whole(1), pointed(1001)}, {pointed(0), pointed(1)},
		// Refs of other numbers, and of other generations.
		{ref(1, 0), ref(2, 0)}, {ref(1, 0), ref(1, 1)}, {ref(1, 2), ref(2, 1)}, {{Kind: api.Ref, N: 1, F: 1}, {Kind: api.Ref, N: 1}},
		{arr(null), arr()}, {arr(null), arr(null, null)}, {arr(whole(1), whole(2)), arr(whole(2), whole(1))}, {arr(whole(1), whole(2)), arr(whole(1), whole(3))}, {arr(arr(), null), arr(null, arr())}, {arr(name("A"), name("B")), arr(name("AB"))},
		{stream("a", a), stream("b", a)}, {stream("a", a), stream("a", b)}, {stream("a"), stream("a", a)},
		{dict(a), dict()}, {dict(a), dict(b)}, {dict(a), dict(a, b)}, {dict(a), dict(entry("A", whole(2)))}, {dict(a, b), dict(entry("B", whole(1)), entry("A", text("b")))}, {dict(a), dict(entry("a", whole(1)))}, {dict(entry("", null)), dict()}, {dict(a, entry("B", null)), dict(a)}, {dict(a, entry("B", null)), dict(a, entry("C", null))},
		// A key twice: what others tell doesn't count.
		{dict(a, entry("A", whole(2))), dict(entry("A", whole(2)), a)}, {dict(a, entry("A", whole(2))), dict(entry("A", whole(2)))}, {dict(a, a), dict(a, b)}, {dict(a, b), dict(a, a)}, {dict(a, a, b), dict(a, b, entry("C", null))}, {dict(entry("A", null), a), dict(a)},
		// Fields that a kind does not have are looked at here.
		{null, {N: 1}}, {null, {F: 1}}, {null, {S: "s"}}, {null, {L: []api.Obj{null}}}, {null, {D: []api.Entry{a}}}, {name("A"), {Kind: api.Name, S: "A", N: 1}}, {name("A"), {Kind: api.Name, S: "A", F: 1}}, {whole(1), {Kind: api.Num, F: 1000, S: "s"}}, {whole(1), {Kind: api.Num, F: 1000, L: []api.Obj{null}}}, {whole(1), {Kind: api.Num, F: 1000, D: []api.Entry{a}}},
		{ref(1, 0), {Kind: api.Ref, N: 1, S: "s"}}, {arr(), {Kind: api.Arr, N: 1}}, {arr(), {Kind: api.Arr, D: []api.Entry{a}}}, {dict(a), {Kind: api.Dict, D: []api.Entry{a}, F: 1}}, {dict(a), {Kind: api.Dict, D: []api.Entry{a}, L: []api.Obj{null}}}, {dict(a), {Kind: api.Dict, D: []api.Entry{a}, S: "s"}}, {truth(1), {Kind: api.Bool, N: 1, F: 1}}, {strange(9), {Kind: 9, N: 4, F: 7, S: "s", L: strange(9).L, D: strange(9).D}},
	} {
		checkSame(t, x[0], x[1], false)
	}
}

// someObject is an object of any kind, of few values, so that two of them are often the same, and with fields now and then that its kind does not have.
func someObject(r *rand.Rand, depth int) api.Obj {
	o := api.Obj{Kind: r.Intn(9)}
	if r.Intn(20) == 0 {
		o.Kind = []int{-1, 9, math.MaxInt}[r.Intn(3)]
	}
	any := r.Intn(6) == 0
	if any || slices.Contains([]int{api.Bool, api.Num, api.Ref}, o.Kind) {
		o.N = r.Intn(2)
	}
	if any || slices.Contains([]int{api.Num, api.Ref}, o.Kind) {
		o.F = api.Fix(r.Intn(2)) * 1000
	}
	if any || slices.Contains([]int{api.Name, api.Str, api.Stream}, o.Kind) {
		o.S = "ab"[:r.Intn(3)]
	}
	for depth > 0 && (any || o.Kind == api.Arr) && r.Intn(3) > 0 && len(o.L) < 3 {
		o.L = append(o.L, someObject(r, depth-1))
	}
	for depth > 0 && (any || o.Kind >= api.Dict && o.Kind != api.Ref) && r.Intn(4) > 0 && len(o.D) < 4 {
		o.D = append(o.D, entry("ABC"[r.Intn(3):][:1], someObject(r, depth-1)))
	}
	return o
}

// altered is o with its entries in another order, where that is the same, and now and then something changed.
func altered(r *rand.Rand, o api.Obj) api.Obj {
	o = copied(o)
	for i := range o.L {
		o.L[i] = altered(r, o.L[i])
	}
	for i := range o.D {
		o.D[i].V = altered(r, o.D[i].V)
	}
	if len(o.D) > 1 && r.Intn(2) == 0 {
		i := r.Intn(len(o.D) - 1)
		if o.D[i].Key != o.D[i+1].Key || r.Intn(8) == 0 {
			o.D[i], o.D[i+1] = o.D[i+1], o.D[i]
		}
	}
	if o.Kind == api.Num {
		o.N = r.Intn(2)
	}
	switch r.Intn(60) {
	case 0:
		o.Kind = r.Intn(9)
	case 1:
		o.F += 1
	case 2:
		o.S += "c"
	case 3:
		o.N++
	case 4:
		o.D = append(o.D, entry("A", null))
	case 5:
		o.L = o.L[:len(o.L)/2]
	}
	return o
}

func TestSameMany(t *testing.T) {
	r := rand.New(rand.NewSource(3))
	same := 0
	for range 20000 {
		a, b := someObject(r, 3), someObject(r, 2)
		if !Same(a, a) || !Same(a, copied(a)) {
			t.Errorf("%v is not itself", a)
		}
		for _, c := range []api.Obj{b, altered(r, a)} {
			want := told(a) == told(c)
			if want {
				same++
			}
			if Same(a, c) != want || Same(c, a) != want {
				t.Errorf("Same(%v, %v): not %t", a, c, want)
			}
		}
	}
	if same < 5000 || same > 35000 {
		t.Errorf("%d are the same", same)
	}
}

func TestCount(t *testing.T) {
	for _, x := range []struct {
		o    api.Obj
		want int
	}{
		{null, 1}, {truth(1), 1}, {whole(1), 1}, {name("A"), 1}, {text("A"), 1}, {ref(1, 0), 1}, {arr(), 1}, {dict(), 1}, {stream("abc"), 1},
		{arr(null), 2}, {arr(whole(1), ref(1, 0), name("A")), 4}, {arr(arr(), arr(arr())), 4}, {dict(entry("A", null)), 2}, {dict(entry("A", whole(1)), entry("B", arr(null, null))), 5}, {stream("abc", entry("Length", whole(3)), entry("A", dict(entry("B", null)))), 4},
		{dict(entry("A", whole(1)), entry("A", whole(2))), 3}, {arr(stream("s", entry("A", null))), 3}, {arr(slices.Repeat([]api.Obj{arr(null)}, 1000)...), 2001},
		// Fields that a kind does not have are not looked at.
		{strange(api.Arr), 2}, {strange(api.Dict), 3}, {strange(api.Stream), 3}, {strange(api.Null), 1}, {strange(api.Bool), 1}, {strange(api.Num), 1}, {strange(api.Name), 1}, {strange(api.Str), 1}, {strange(api.Ref), 1}, {strange(-1), 1}, {strange(9), 1}, {strange(math.MaxInt), 1}, {arr(strange(9), strange(api.Dict)), 5},
	} {
		before := copied(x.o)
		if got := Count(x.o); got != x.want {
			t.Errorf("Count(%v): %d, not %d", x.o, got, x.want)
		}
		if !equal(x.o, before) {
			t.Errorf("Count changed %v", before)
		}
	}
}

// wantCount goes through a pile of what is not counted yet.
func wantCount(o api.Obj) int {
	n := 0
	for pile := []api.Obj{o}; len(pile) > 0; n++ {
		o, pile = pile[len(pile)-1], pile[:len(pile)-1]
		switch o.Kind {
		case api.Arr:
			pile = append(pile, o.L...)
		case api.Dict, api.Stream:
			for _, e := range o.D {
				pile = append(pile, e.V)
			}
		}
	}
	return n
}

func TestCountMany(t *testing.T) {
	r := rand.New(rand.NewSource(4))
	for range 20000 {
		o := someObject(r, 5)
		if got, want := Count(o), wantCount(o); got != want {
			t.Errorf("Count(%v): %d, not %d", o, got, want)
		}
	}
}

func TestInt(t *testing.T) {
	for _, n := range []int{0, 1, -1, 7, 1000, 2147483, -2147483} {
		if o := Int(n); !equal(o, whole(n)) {
			t.Errorf("Int(%d): %v", n, o)
		}
	}
	for _, n := range []int{2147484, -2147484, 1 << 31, -1 << 31, 1 << 61, 18446744073709552, math.MaxInt, math.MinInt} {
		if o := Int(n); !equal(o, null) {
			t.Errorf("Int(%d): %v", n, o)
		}
	}
}

func TestWord(t *testing.T) {
	for _, s := range []string{"", "A", "A B", "/A", "#41", "true", "\x00\xff", strings.Repeat("x", 5000)} {
		if o := Word(s); !equal(o, name(s)) {
			t.Errorf("Word(%.80q): %s", s, short(o))
		}
	}
}
