package xref

import (
	"fmt"
	"slices"
	"strings"
	"testing"

	"inkstand/api"
	"inkstand/cos"
)

// How the tests ask.

var none api.Obj

// used and free are an entry of each kind.
func used(n, off, gen int) Entry { return Entry{N: n, Off: off, Gen: gen, Used: true} }

func free(n, off, gen int) Entry { return Entry{N: n, Off: off, Gen: gen} }

// row is so many entries, one behind the other.
func row(first, n int) []Entry {
	l := make([]Entry, n)
	for i := range l {
		l[i] = Entry{N: first + i, Off: i * 37, Gen: i % 7, Used: i%3 > 0}
	}
	return l
}

// cut is what is told of a value, where it is long.
func cut(v any) string { return fmt.Sprintf("%.150s", fmt.Sprint(v)) }

func checkStart(t *testing.T, s string, want int, e api.Errno) {
	t.Helper()
	if at, err := Start(s); at != want || err != e {
		t.Errorf("Start(%.90q), of %d bytes: %d %v, not %d %v", s, len(s), at, err, want, e)
	}
}

// checkParse asks for a table and its trailer, or for an error and nothing else.
func checkParse(t *testing.T, s string, at int, want []Entry, trailer api.Obj, e api.Errno) {
	t.Helper()
	l, o, err := Parse(s, at)
	if !slices.Equal(l, want) || !cos.Same(o, trailer) || err != e {
		t.Errorf("Parse(%.90q, %d): %s %s %v, not %s %s %v", s, at, cut(l), cut(o), err, cut(want), cut(trailer), e)
	}
}

// checkTable asks that s is one table from its begin to its end, and the same one among others.
func checkTable(t *testing.T, s string, want []Entry, trailer api.Obj) {
	t.Helper()
	checkParse(t, s, 0, want, trailer, api.OK)
	checkParse(t, "%x\n "+s+" ", 0, want, trailer, api.OK)
	checkParse(t, ")xref"+s+")", 5, want, trailer, api.OK)
	checkParse(t, s+"\nstartxref\n0\n%%EOF", 0, want, trailer, api.OK)
	for _, end := range []string{"\r\n", "\r", "\t", "\x00", "\f", "%(\n", " %\r\n"} {
		checkParse(t, strings.ReplaceAll(s, " ", end), 0, want, trailer, api.OK)
	}
}

func checkWrong(t *testing.T, s string, e api.Errno) {
	t.Helper()
	checkParse(t, s, 0, nil, none, e)
	checkParse(t, ")%\n"+s, 1, nil, none, e)
}

// checkWrite asks for a text, and that nothing was changed.
func checkWrite(t *testing.T, l []Entry, want string, e api.Errno) {
	t.Helper()
	before := slices.Clone(l)
	if s, err := Write(l); s != want || err != e {
		t.Errorf("Write(%s): %.200q %v, not %.200q %v", cut(l), s, err, want, e)
	}
	if !slices.Equal(l, before) {
		t.Errorf("Write changed %s into %s", cut(before), cut(l))
	}
}

// checkMerge asks for entries that are new memory, and that nothing was changed, nor is by what is done to them.
func checkMerge(t *testing.T, young, old, want []Entry) {
	t.Helper()
	beforeYoung, beforeOld := slices.Clone(young), slices.Clone(old)
	l := Merge(young, old)
	if !slices.Equal(l, want) {
		t.Errorf("Merge(%s, %s): %s, not %s", cut(young), cut(old), cut(l), cut(want))
	}
	for i := range l {
		l[i] = Entry{N: -99, Off: -99}
	}
	if !slices.Equal(young, beforeYoung) || !slices.Equal(old, beforeOld) {
		t.Errorf("Merge(%s, %s) made %s and %s of these", cut(beforeYoung), cut(beforeOld), cut(young), cut(old))
	}
}
