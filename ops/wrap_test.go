package ops

import (
	"strings"
	"testing"

	"inkstand/api"
)

// P11.3

func TestBalanced(t *testing.T) {
	for s, want := range map[string]bool{
		"": true, "x": true, "f S n w": true,
		"q": false, "Q": false, "q Q": true, "Q q": false, "q q": false, "q Q Q": false, "q Q Q q": false, "q q Q": false, "q q Q Q": true, "q Q q Q": true, "x q x Q x": true, "q q Q q Q Q": true,
		"BT": false, "ET": false, "BT ET": true, "ET BT": false, "BT BT ET ET": false, "BT ET BT ET": true, "BT ET ET": false, "BT ET BT": false, "BT ET ET BT": false, "BT BT": false, "BT x ET": true, "BT BT ET": false, "ET ET": false,
		"q BT ET Q": true, "BT q Q ET": false, "BT q ET Q": false, "q BT Q ET": false, "BT q ET": false, "BT Q ET": false, "q Q BT ET": true, "BT ET q Q": true, "q BT ET BT ET Q BT x ET": true, "q BT ET": false, "BT ET Q": false, "q BT": false, "BT q Q": false,
		"q q BT ET Q BT x ET Q": true, "Bt q Q": true, "bt": true, "BTx QQ qq": true, "R": true, "q Q ET": false,
	} {
		checkBalanced(t, named(s), want)
		if want {
			checkBalanced(t, named("q "+s+" Q x "+s), true)
		}
	}
	checkBalanced(t, nil, true)
}

func TestBalancedLooksAtNamesAlone(t *testing.T) {
	checkBalanced(t, []Op{op("q", whole(1)), op("Q", name("q"), ref(1, 0))}, true)
	checkBalanced(t, []Op{op("x", name("q")), op("", text("BT")), op("BI")}, true)
	checkBalanced(t, []Op{op("BT", null), op("q ")}, false)
	checkBalanced(t, []Op{op("BT"), op("q "), op(" Q"), op("ET", null)}, true)
}

func TestWrap(t *testing.T) {
	for s, want := range map[string]string{
		"":  "q Q",
		"x": "q x Q", "w n": "q w n Q",
		"q": "q q Q Q", "q q": "q q q Q Q Q",
		"Q": "q q Q Q", "Q Q x": "q q q Q Q x Q",
		"q Q": "q q Q Q", "Q q": "q q Q q Q Q",
		"x Q q Q Q x": "q q q x Q q Q Q x Q",
		"q Q Q q":     "q q q Q Q q Q Q",
		"q q Q Q Q":   "q q q q Q Q Q Q",
		"Q q q q":     "q q Q q q q Q Q Q Q",
		"q q q Q":     "q q q q Q Q Q Q",
		"q Q Q Q q q": "q q q q Q Q Q q q Q Q Q",
		"Q Q q q Q Q": "q q q Q Q q q Q Q Q",
		"q Q x Q":     "q q q Q x Q Q",
		"BT":          "q BT Q", "ET BT q": "q ET BT q Q Q", "BT Q ET": "q q BT Q ET Q",
		"BI Q q": "q q BI Q q Q Q",
	} {
		checkWrap(t, named(s), named(want))
	}
	checkWrap(t, nil, named("q Q"))
}

func TestWrapKeepsArgs(t *testing.T) {
	l := []Op{op("Q", whole(1)), op("rg", whole(1), arr(ref(1, 0)), dict(entry("A", null))), op("", stream("s")), op("q", name("q"))}
	checkWrap(t, l, append(append(named("q q"), l...), named("Q Q")...))
	got := Wrap(l)
	if n := len(got); got[0].Args != nil || got[1].Args != nil || got[n-1].Args != nil || got[n-2].Args != nil {
		t.Error("objects of what is laid around:", got)
	}
}

func TestWrapOfMany(t *testing.T) {
	const n = 70000
	many := func(s string) []Op { return named(strings.Repeat(s+" ", n)) }
	if got := Wrap(many("Q")); len(got) != 2*n+2 || !equal(got[:n+1], append(many("q"), op("q"))) {
		t.Error("of Q", len(got))
	}
	if got := Wrap(many("q")); len(got) != 2*n+2 || !Balanced(got) {
		t.Error("of q", len(got))
	}
	if got := Wrap(many("q Q")); len(got) != 2*n+2 || !Balanced(got) {
		t.Error("of q and Q", len(got))
	}
	if got := Wrap(append(many("Q"), many("q")...)); len(got) != 4*n+2 || !Balanced(got) {
		t.Error("of Q, then q", len(got))
	}
}

// P11.4

func TestWrapIsBalanced(t *testing.T) {
	for n := range 11 {
		for bits := range 1 << n {
			var l []Op
			for i := range n {
				l = append(l, op([]string{"q", "Q"}[bits>>i&1], whole(i)), op("x"))
			}
			got := Wrap(l)
			if !Balanced(got) {
				t.Fatal(letters(l), letters(got))
			}
			// Nothing takes back what stands ahead, nor the first q.
			if !wantBalanced(got[1 : len(got)-1]) {
				t.Fatal(letters(l), letters(got))
			}
			checkWrap(t, l, wantWrap(l))
		}
	}
}

func TestWrittenAndWrapped(t *testing.T) {
	l, e := Parse("Q 1 0 0 rg Q q [(a) 2] TJ")
	if e != api.OK {
		t.Fatal(e)
	}
	checkWrite(t, Wrap(l), "q\nq\nq\nQ\n1 0 0 rg\nQ\nq\n[(a) 2] TJ\nQ\nQ\n", api.OK)
}
