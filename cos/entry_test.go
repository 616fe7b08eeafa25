package cos

import (
	"math"
	"testing"

	"inkstand/api"
)

// P4.3

// strange is of a kind that is none, with all fields.
func strange(kind int) api.Obj {
	return api.Obj{Kind: kind, N: 3, F: 7, S: "s", L: []api.Obj{whole(1)}, D: []api.Entry{entry("A", whole(5)), entry("B", null)}}
}

// noDicts are objects of all kinds that have no entries, and of some that are none.
func noDicts() []api.Obj {
	l := []api.Obj{null, truth(1), whole(1), name("A"), text("A"), arr(whole(1)), ref(1, 0)}
	for _, kind := range []int{api.Null, api.Bool, api.Num, api.Name, api.Str, api.Arr, api.Ref, -1, 9, math.MinInt, math.MaxInt} {
		l = append(l, strange(kind))
	}
	return l
}

func checkGet(t *testing.T, o api.Obj, key string, want api.Obj) {
	t.Helper()
	before := copied(o)
	if got := Get(o, key); !equal(got, want) {
		t.Errorf("Get(%v, %q): %v, not %v", o, key, got, want)
	}
	if !equal(o, before) {
		t.Errorf("Get changed %v into %v", before, o)
	}
}

func TestGet(t *testing.T) {
	d := []api.Entry{entry("A", whole(1)), entry("B", arr(name("x"), ref(1, 0))), entry("", text("e")), entry("A", whole(2)), entry("C", dict(entry("D", whole(3))))}
	for _, o := range []api.Obj{dict(d...), stream("A", d...), {Kind: api.Dict, N: 5, F: 5, S: "s", L: []api.Obj{whole(9)}, D: d}} {
		checkGet(t, o, "A", whole(1))
		checkGet(t, o, "B", arr(name("x"), ref(1, 0)))
		checkGet(t, o, "", text("e"))
		checkGet(t, o, "C", dict(entry("D", whole(3))))
		for _, key := range []string{"a", "D", "AA", "A ", "\x00", "x"} {
			checkGet(t, o, key, null)
		}
	}
	for _, key := range []string{"", "A"} {
		checkGet(t, dict(), key, null)
		checkGet(t, stream(""), key, null)
		for _, o := range noDicts() {
			checkGet(t, o, key, null)
		}
	}
	checkGet(t, dict(entry("A", null), entry("A", whole(1))), "A", null)
}

func checkSet(t *testing.T, o api.Obj, key string, v, want api.Obj) {
	t.Helper()
	before, value := copied(o), copied(v)
	got := Set(o, key, v)
	if !equal(got, want) {
		t.Errorf("Set(%v, %q, %v): %v, not %v", o, key, v, got, want)
	}
	// Whoever appends to the answer, or writes into it, does so to nothing that was handed in.
	if hasEntries(o) {
		for i := range got.D {
			got.D[i] = entry("changed", null)
		}
		got.D = append(got.D, entry("more", null))
	}
	if !equal(o, before) || !equal(v, value) {
		t.Errorf("Set changed %v into %v, or %v into %v", before, o, value, v)
	}
}

func TestSet(t *testing.T) {
	a, b, c := entry("A", whole(1)), entry("B", text("b")), entry("C", arr(null))
	again, v := entry("A", whole(2)), name("v")
	for _, x := range []struct {
		d    []api.Entry
		v    api.Obj
		want []api.Entry
	}{
		// Not there.
		{nil, v, []api.Entry{entry("A", v)}},
		{[]api.Entry{b}, v, []api.Entry{b, entry("A", v)}},
		{[]api.Entry{b, c}, v, []api.Entry{b, c, entry("A", v)}},
		{[]api.Entry{entry("a", v)}, v, []api.Entry{entry("a", v), entry("A", v)}},
		// There once.
		{[]api.Entry{a}, v, []api.Entry{entry("A", v)}},
		{[]api.Entry{a, b, c}, v, []api.Entry{entry("A", v), b, c}},
		{[]api.Entry{b, a, c}, v, []api.Entry{b, entry("A", v), c}},
		{[]api.Entry{b, c, a}, v, []api.Entry{b, c, entry("A", v)}},
		{[]api.Entry{b, entry("A", null)}, v, []api.Entry{b, entry("A", v)}},
		// There twice, or more often.
		{[]api.Entry{a, again}, v, []api.Entry{entry("A", v)}},
		{[]api.Entry{a, b, again}, v, []api.Entry{entry("A", v), b}},
		{[]api.Entry{b, a, c, again, a, b}, v, []api.Entry{b, entry("A", v), c, b}},
		// Null.
		{nil, null, nil},
		{[]api.Entry{a}, null, nil},
		{[]api.Entry{b, c}, null, []api.Entry{b, c}},
		{[]api.Entry{b, a, c}, null, []api.Entry{b, c}},
		{[]api.Entry{a, b, again, a, c, again}, null, []api.Entry{b, c}},
		{[]api.Entry{b, entry("A", null), b}, null, []api.Entry{b, b}},
		{[]api.Entry{a, b}, strange(api.Null), []api.Entry{b}},
		// Whatever is no Null, of kinds that are none too.
		{[]api.Entry{a, b}, strange(-1), []api.Entry{entry("A", strange(-1)), b}},
		{[]api.Entry{a, b}, stream("s", c), []api.Entry{entry("A", stream("s", c)), b}},
		{[]api.Entry{a, b}, truth(0), []api.Entry{entry("A", truth(0)), b}},
	} {
		for _, o := range []api.Obj{dict(x.d...), stream("bytes", x.d...), {Kind: api.Dict, N: 5, F: 6, S: "s", L: []api.Obj{whole(9)}, D: x.d}} {
			want := o
			want.D = x.want
			checkSet(t, o, "A", x.v, want)
		}
		// Room behind the list is not used.
		roomy := append(make([]api.Entry, 0, 20), x.d...)
		roomy[:20][len(x.d)] = entry("behind", v)
		checkSet(t, dict(roomy...), "A", x.v, dict(x.want...))
		if kept := roomy[:20][len(x.d)]; kept.Key != "behind" {
			t.Errorf("Set wrote behind the list: %v", kept)
		}
	}
	for _, o := range noDicts() {
		checkSet(t, o, "A", v, o)
		checkSet(t, o, "A", null, o)
		checkSet(t, o, "", v, o)
	}
}
