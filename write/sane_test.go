package write

import (
	"math"
	"testing"

	"inkstand/api"
)

// P5.1

func TestSaneKinds(t *testing.T) {
	for kind := api.Null; kind <= api.Stream; kind++ {
		checkSane(t, api.Obj{Kind: kind}, api.OK)
	}
	for _, kind := range []int{-1, 9, -9, 10, 1 << 32, math.MinInt, math.MaxInt} {
		checkSane(t, api.Obj{Kind: kind}, api.ErrArg)
		checkSane(t, api.Obj{Kind: kind, N: 1, F: 1000, S: "s", L: objects(2), D: entries(2)}, api.ErrArg)
	}
}

func TestSaneBool(t *testing.T) {
	checkSane(t, truth(0), api.OK)
	checkSane(t, truth(1), api.OK)
	for _, n := range []int{-1, 2, 3, 1 << 32, 1<<32 + 1, math.MinInt, math.MaxInt} {
		checkSane(t, truth(n), api.ErrArg)
	}
}

func TestSaneNum(t *testing.T) {
	const most = api.Fix(api.MaxFix)
	for _, x := range []struct {
		n int
		f api.Fix
		e api.Errno
	}{
		{0, 0, api.OK}, {1, 0, api.OK}, {0, 1, api.OK}, {0, -1, api.OK}, {0, 1000, api.OK}, {1, 1000, api.OK}, {1, -1000, api.OK}, {0, 999, api.OK}, {0, -1500, api.OK},
		// N 1 with thousandths.
		{1, 1, api.ErrArg}, {1, -1, api.ErrArg}, {1, 999, api.ErrArg}, {1, 1001, api.ErrArg}, {1, 1500, api.ErrArg}, {1, -1500, api.ErrArg}, {1, 1100, api.ErrArg}, {1, 1010, api.ErrArg},
		// Another N.
		{-1, 0, api.ErrArg}, {2, 0, api.ErrArg}, {2, 1000, api.ErrArg}, {-1, 1, api.ErrArg}, {math.MinInt, 0, api.ErrArg}, {math.MaxInt, 0, api.ErrArg}, {1 << 32, 0, api.ErrArg},
		// At what may be, and beyond it.
		{0, most, api.OK}, {0, -most, api.OK}, {0, most + 1, api.ErrRange}, {0, -most - 1, api.ErrRange}, {0, math.MaxInt, api.ErrRange}, {0, math.MinInt, api.ErrRange}, {0, 1 << 62, api.ErrRange}, {0, 2147484000, api.ErrRange},
		{1, 2147483000, api.OK}, {1, -2147483000, api.OK}, {1, 2147484000, api.ErrRange}, {1, -2147484000, api.ErrRange}, {1, 1000 << 50, api.ErrRange}, {1, -1000 << 50, api.ErrRange},
		// Both.
		{1, most, api.ErrArg}, {1, most + 1, api.ErrArg}, {1, -most - 1, api.ErrArg}, {1, math.MaxInt, api.ErrArg}, {1, math.MinInt, api.ErrArg}, {2, most + 1, api.ErrArg}, {-1, 2147484000, api.ErrArg},
	} {
		checkSane(t, api.Obj{Kind: api.Num, N: x.n, F: x.f}, x.e)
	}
}

func TestSaneRef(t *testing.T) {
	for _, x := range []struct {
		n int
		f api.Fix
		e api.Errno
	}{
		{0, 0, api.OK}, {1, 0, api.OK}, {0, 1000, api.OK}, {12, 34000, api.OK}, {2147483, 2147483000, api.OK},
		{-1, 0, api.ErrArg}, {1, -1, api.ErrArg}, {1, -1000, api.ErrArg}, {-1, -1000, api.ErrArg}, {math.MinInt, 0, api.ErrArg}, {1, math.MinInt, api.ErrArg},
		{1, 1, api.ErrArg}, {1, 999, api.ErrArg}, {1, 1001, api.ErrArg}, {1, 1500, api.ErrArg}, {1, 65535, api.ErrArg},
		{2147484, 0, api.ErrRange}, {math.MaxInt, 0, api.ErrRange}, {1 << 32, 0, api.ErrRange}, {2147483648, 0, api.ErrRange},
		{1, 2147484000, api.ErrRange}, {1, 1000 << 50, api.ErrRange}, {2147484, 2147484000, api.ErrRange},
		// Both.
		{1, 2147483648, api.ErrArg}, {1, math.MaxInt, api.ErrArg}, {2147484, 1, api.ErrArg}, {2147484, -1000, api.ErrArg}, {-1, 2147484000, api.ErrArg},
	} {
		checkSane(t, api.Obj{Kind: api.Ref, N: x.n, F: x.f}, x.e)
	}
}

func TestSaneEntries(t *testing.T) {
	a, b := entry("A", whole(1)), entry("B", text("b"))
	for _, x := range []struct {
		d []api.Entry
		e api.Errno
	}{
		{nil, api.OK}, {[]api.Entry{}, api.OK}, {[]api.Entry{a}, api.OK}, {[]api.Entry{a, b}, api.OK}, {[]api.Entry{b, a, entry("", name(""))}, api.OK}, {[]api.Entry{a, entry("a", whole(1)), entry("A ", whole(1)), entry("A\x00", whole(1))}, api.OK}, {[]api.Entry{a, entry("B", dict(a, b))}, api.OK}, {[]api.Entry{entry("A", arr(null))}, api.OK},
		// An object that is Null, whatever else is in it.
		{[]api.Entry{entry("A", null)}, api.ErrArg}, {[]api.Entry{a, b, entry("C", null)}, api.ErrArg}, {[]api.Entry{entry("C", filled(null)), a}, api.ErrArg}, {[]api.Entry{entry("A", dict(a, entry("B", null)))}, api.ErrArg},
		// A key twice.
		{[]api.Entry{a, a}, api.ErrArg}, {[]api.Entry{a, entry("A", text("b"))}, api.ErrArg}, {[]api.Entry{a, b, a}, api.ErrArg}, {[]api.Entry{b, a, b}, api.ErrArg}, {[]api.Entry{entry("", a.V), a, entry("", b.V)}, api.ErrArg}, {[]api.Entry{entry("Z", dict(a, a))}, api.ErrArg}, {[]api.Entry{a, entry("A", null)}, api.ErrArg},
	} {
		checkSane(t, dict(x.d...), x.e)
		checkSane(t, stream("s", x.d...), x.e)
	}
}

func TestSaneStreamInside(t *testing.T) {
	checkSane(t, stream(""), api.OK)
	checkSane(t, stream(allBytes(), entry("A", arr(name("B")))), api.OK)
	for _, inner := range []api.Obj{stream(""), stream("s", entries(2)...), stream("s", entry("A", null)), stream("s", entries(1025)...)} {
		checkSane(t, arr(inner), api.ErrArg)
		checkSane(t, dict(entry("A", inner)), api.ErrArg)
		checkSane(t, stream("s", entry("A", inner)), api.ErrArg)
		checkSane(t, stream("s", entry("A", arr(whole(1), dict(entry("A", inner))))), api.ErrArg)
	}
	checkOnly(t, nested(63, stream(""), api.Arr), api.ErrArg)
	checkOnly(t, nested(64, stream(""), api.Dict), api.ErrArg)
	checkOnly(t, nested(65, stream(""), api.Arr), api.ErrDeep)
}

func TestSaneMany(t *testing.T) {
	for n, e := range map[int]api.Errno{1023: api.OK, 1024: api.OK, 1025: api.ErrLarge, 1026: api.ErrLarge} {
		checkSane(t, arr(objects(n)...), e)
		checkSane(t, dict(entries(n)...), e)
		checkSane(t, stream("s", entries(n)...), e)
		checkSane(t, arr(make([]api.Obj, n)...), e)
	}
	const many = 1 << 17
	checkOnly(t, arr(objects(many)...), api.ErrLarge)
	checkOnly(t, dict(entries(many)...), api.ErrLarge)
	checkOnly(t, dict(append(entries(many), entries(1)...)...), api.ErrArg)
	// As many in each of several.
	checkSane(t, arr(arr(objects(1024)...), dict(entries(1024)...), arr(objects(1024)...)), api.OK)
	checkSane(t, dict(entry("A", arr(objects(1024)...)), entry("B", dict(entries(1025)...))), api.ErrLarge)
}

func TestSaneDeep(t *testing.T) {
	for _, kinds := range [][]int{{api.Arr}, {api.Dict}, {api.Arr, api.Dict}, {api.Dict, api.Arr, api.Arr}} {
		for n, e := range map[int]api.Errno{62: api.OK, 63: api.OK, 64: api.OK, 65: api.ErrDeep, 66: api.ErrDeep, 500: api.ErrDeep} {
			// n of them in one another.
			checkOnly(t, nested(n-1, arr(), kinds...), e)
			checkOnly(t, nested(n-1, dict(), kinds...), e)
			checkOnly(t, nested(n, name("A"), kinds...), e)
			checkOnly(t, arr(whole(1), nested(n-1, name("A"), kinds...)), e)
			checkOnly(t, stream("s", entry("A", nested(n-1, name("A"), kinds...))), e)
			checkOnly(t, stream("s", entry("A", nested(n-2, arr(), kinds...)), entry("B", null)), api.ErrArg)
		}
		// What is no Arr, Dict or Stream may stand in 64.
		for _, o := range []api.Obj{truth(1), whole(1), name("A"), text("A"), ref(1, 0), filled(name("A"))} {
			checkOnly(t, nested(64, o, kinds...), api.OK)
		}
	}
	checkOnly(t, nested(64, null, api.Arr), api.OK)
	checkOnly(t, nested(64, truth(2), api.Arr), api.ErrArg)
	checkOnly(t, nested(65, truth(2), api.Arr), api.ErrDeep)
	if e := Sane(nested(1<<16, null, api.Arr, api.Dict)); e != api.ErrDeep {
		t.Error("Sane of many in one another:", e)
	}
	// One that is deep behind many that are not.
	checkOnly(t, arr(nested(63, null, api.Arr), nested(63, null, api.Arr), nested(64, null, api.Arr)), api.ErrDeep)
	checkOnly(t, arr(nested(63, null, api.Arr), nested(63, null, api.Arr), nested(63, null, api.Arr)), api.OK)
}

// The first error of an object, and an object's ahead of those of what stands in it, one behind the other.
func TestSaneOrder(t *testing.T) {
	wrong, great, long := truth(2), pointed(1<<40), arr(objects(1025)...)
	many := func(n int, first ...api.Obj) []api.Obj { return append(first, objects(n-len(first))...) }
	manyEntries := func(n int, first ...api.Entry) []api.Entry { return append(first, entries(n-len(first))...) }
	deep := nested(64, null, api.Arr)
	for _, x := range []struct {
		o api.Obj
		e api.Errno
	}{
		{arr(wrong, great, long), api.ErrArg}, {arr(great, wrong, long), api.ErrRange}, {arr(long, great, wrong), api.ErrLarge}, {arr(deep, wrong), api.ErrDeep}, {arr(wrong, deep), api.ErrArg},
		{arr(arr(great), wrong), api.ErrRange}, {arr(arr(arr(great)), arr(wrong)), api.ErrRange}, {arr(arr(), arr(wrong), great), api.ErrArg}, {arr(dict(entry("A", great)), wrong), api.ErrRange}, {arr(dict(entry("A", whole(1))), wrong, great), api.ErrArg},
		// Too many ahead of what stands in it.
		{arr(many(1025, wrong)...), api.ErrLarge}, {arr(many(1025, great)...), api.ErrLarge}, {arr(many(1025, arr(wrong))...), api.ErrLarge}, {arr(many(1024, wrong)...), api.ErrArg}, {arr(many(1025, stream("s"))...), api.ErrLarge},
		{dict(manyEntries(1025, entry("A", great))...), api.ErrLarge}, {dict(manyEntries(1025, entry("A", wrong))...), api.ErrLarge}, {dict(manyEntries(1025, entry("A", stream("s")))...), api.ErrLarge},
		// Its entries' keys, and Nulls, ahead of how many they are, and of what stands in it.
		{dict(manyEntries(1025, entry("A", null))...), api.ErrArg}, {dict(append(entries(1025), entry("K7", whole(1)))...), api.ErrArg}, {dict(append(entries(1025), entry("K", null))...), api.ErrArg}, {dict(entry("A", great), entry("A", whole(1))), api.ErrArg}, {dict(entry("A", great), entry("B", null)), api.ErrArg}, {dict(entry("A", long), entry("B", null)), api.ErrArg}, {dict(entry("A", dict(entry("A", great))), entry("A", great)), api.ErrArg}, {arr(great, dict(entry("A", null))), api.ErrRange}, {dict(entry("A", great), entry("B", dict(entry("A", null)))), api.ErrRange}, {dict(entry("A", dict(entry("A", great), entry("A", great))), entry("B", great)), api.ErrArg},
		// A Stream inside is asked of where it stands.
		{arr(great, stream("s")), api.ErrRange}, {arr(stream("s"), great), api.ErrArg}, {arr(stream("s", entries(1025)...)), api.ErrArg}, {dict(entry("A", great), entry("B", stream("s"))), api.ErrRange},
	} {
		checkOnly(t, x.o, x.e)
		checkOnly(t, arr(null, x.o), x.e)
		checkOnly(t, stream("s", entry("A", x.o)), x.e)
	}
	// Too deep behind all else of one object.
	checkOnly(t, nested(64, arr(objects(1025)...), api.Arr), api.ErrLarge)
	checkOnly(t, nested(64, dict(entry("A", null)), api.Arr), api.ErrArg)
	checkOnly(t, nested(64, dict(entries(1025)...), api.Arr), api.ErrLarge)
	checkOnly(t, nested(64, arr(wrong), api.Arr), api.ErrDeep)
	checkOnly(t, nested(63, arr(wrong), api.Arr), api.ErrArg)
	checkOnly(t, nested(64, stream("s", entry("A", great)), api.Arr), api.ErrArg)
}

// Fields that a kind does not have are not looked at (R4).
func TestSaneOtherFields(t *testing.T) {
	for _, o := range []api.Obj{
		{Kind: api.Null, N: -7, F: 1 << 40, S: "s", L: []api.Obj{truth(2)}, D: []api.Entry{entry("A", null)}},
		{Kind: api.Null, L: objects(1025)}, {Kind: api.Null, D: entries(1025)},
		{Kind: api.Bool, N: 1, F: 1 << 40, S: "s", L: objects(1025), D: []api.Entry{entry("A", null)}},
		{Kind: api.Num, N: 1, F: 1000, S: "s", L: []api.Obj{{Kind: 9}}, D: []api.Entry{entry("A", null)}},
		{Kind: api.Name, N: -7, F: 1 << 40, S: "s", L: []api.Obj{{Kind: 9}}, D: entries(1025)},
		{Kind: api.Str, N: 7, F: -1 << 40, S: "s", L: objects(1025), D: []api.Entry{entry("A", null)}},
		{Kind: api.Arr, N: -7, F: 1 << 40, S: "s", L: objects(3), D: []api.Entry{entry("A", null), entry("A", null)}}, {Kind: api.Arr, D: entries(1025)}, {Kind: api.Arr, D: []api.Entry{entry("A", stream("s"))}},
		{Kind: api.Dict, N: 7, F: -1, S: "s", L: []api.Obj{{Kind: 9}}, D: entries(3)}, {Kind: api.Dict, L: objects(1025)}, {Kind: api.Dict, L: []api.Obj{stream("s")}},
		{Kind: api.Ref, N: 7, F: 1000, S: "s", L: objects(1025), D: entries(1025)},
		{Kind: api.Stream, N: -7, F: 1 << 40, S: "s", L: []api.Obj{{Kind: 9}}, D: entries(3)}, {Kind: api.Stream, L: objects(1025)},
	} {
		checkSane(t, o, api.OK)
	}
}

// Objects that hold themselves are too deep.
func TestSaneRings(t *testing.T) {
	l := []api.Obj{whole(1), {}, {Kind: api.Bool, N: 2}}
	l[1] = arr(l...)
	d := []api.Entry{entry("A", whole(1)), {}, entry("C", truth(2))}
	d[1] = entry("B", dict(d...))
	both := []api.Obj{{}}
	both[0] = dict(entry("A", arr(both...)))
	for _, o := range []api.Obj{arr(l...), dict(d...), stream("s", d...), arr(both...), both[0]} {
		if e := Sane(o); e != api.ErrDeep {
			t.Error("Sane:", e)
		}
		if s, e := Object(o); s != "" || e != api.ErrDeep {
			t.Errorf("Object: %.80q %v", s, e)
		}
		if s, e := Indirect(1, 0, o); s != "" || e != api.ErrDeep {
			t.Errorf("Indirect: %.80q %v", s, e)
		}
	}
}
