package xref

import (
	"fmt"
	"strings"
	"testing"

	"inkstand/api"
	"inkstand/cos"
)

// P8.5

// readable: may all numbers be read? A table has room for greater ones than lex reads.
func readable(l []Entry) bool {
	for _, e := range l {
		if e.Off > 2147483 {
			return false
		}
	}
	return true
}

// checkAgain asks that what is written is read as it was, wherever it stands, with a trailer behind it.
func checkAgain(t *testing.T, l []Entry) {
	t.Helper()
	s, e := Write(l)
	if e != api.OK {
		t.Errorf("Write(%s): %v", cut(l), e)
		return
	}
	for _, trailer := range []string{"trailer<<>>", "trailer\n<</Size 7/Root 1 0 R/ID[(a)<00>]>>\nstartxref\n5\n%%EOF\n", "trailer %x\n<</A<</B null>>>>"} {
		o, _, _ := cos.Parse(trailer, len("trailer"))
		for _, ahead := range []string{"", "%PDF-1.7\n(", ")\x00"} {
			if !readable(l) {
				checkParse(t, ahead+s+trailer, len(ahead), nil, none, api.ErrRange)
				continue
			}
			checkParse(t, ahead+s+trailer, len(ahead), l, o, api.OK)
		}
	}
	if readable(l) {
		again, _, _ := Parse(s+"trailer<<>>", 0)
		checkWrite(t, again, s, api.OK)
	}
}

func TestAgain(t *testing.T) {
	for _, l := range [][]Entry{
		nil,
		{used(1, 15, 0)},
		{free(0, 0, 65535), used(1, 15, 0), used(3, 2147483, 99999)},
		{used(4095, 0, 0)},
		{free(0, 0, 0), free(2, 0, 0), free(4, 0, 0), used(5, 1, 1)},
		row(0, 4096), row(1, 4095), row(4000, 96), append(row(0, 100), row(101, 3000)...),
		{used(0, 2147484, 0)}, {used(0, 9999999999, 0)}, {used(0, 5, 0), used(1, 3000000000, 0)},
	} {
		checkAgain(t, l)
	}
}

// A file's end: the place that Start tells is where the table is read.
func TestAgainFromStart(t *testing.T) {
	for n := range 300 {
		l := row(n, n%17)
		table, _ := Write(l)
		s := "%PDF-1.7\n" + strings.Repeat("x", n) + "\n"
		s += table + "trailer\n<</Size 5>>\nstartxref\n" + fmt.Sprint(len(s)) + "\n%%EOF\n"
		at, e := Start(s)
		if e != api.OK || !strings.HasPrefix(s[at:], "xref\n") {
			t.Fatal(n, at, e)
		}
		checkParse(t, s, at, l, dict("Size", 5), api.OK)
	}
}
