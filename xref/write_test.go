package xref

import (
	"math"
	"slices"
	"strings"
	"testing"

	"inkstand/api"
)

// P8.3

func TestWrite(t *testing.T) {
	for _, x := range []struct {
		l    []Entry
		want string
	}{
		{nil, "xref\n"},
		{[]Entry{}, "xref\n"},
		// The chapter's example.
		{[]Entry{used(1, 15, 0)}, "xref\n1 1\n0000000015 00000 n \n"},
		{[]Entry{free(0, 0, 65535)}, "xref\n0 1\n0000000000 65535 f \n"},
		// One run, and more.
		{[]Entry{free(0, 0, 65535), used(1, 15, 0), used(2, 1234567890, 12345)}, "xref\n0 3\n0000000000 65535 f \n0000000015 00000 n \n1234567890 12345 n \n"},
		{[]Entry{used(0, 1, 0), used(2, 2, 0)}, "xref\n0 1\n0000000001 00000 n \n2 1\n0000000002 00000 n \n"},
		{[]Entry{used(3, 1, 0), used(4, 2, 0), free(6, 3, 1), used(9, 4, 0), used(10, 5, 0), used(11, 6, 0)}, "xref\n3 2\n0000000001 00000 n \n0000000002 00000 n \n6 1\n0000000003 00001 f \n9 3\n0000000004 00000 n \n0000000005 00000 n \n0000000006 00000 n \n"},
		{[]Entry{free(9, 0, 0), free(99, 0, 0), free(999, 0, 0), free(4095, 0, 0)}, "xref\n9 1\n0000000000 00000 f \n99 1\n0000000000 00000 f \n999 1\n0000000000 00000 f \n4095 1\n0000000000 00000 f \n"},
		// As many digits as there may be.
		{[]Entry{used(4094, 9999999999, 99999), free(4095, 9999999999, 99999)}, "xref\n4094 2\n9999999999 99999 n \n9999999999 99999 f \n"},
		{[]Entry{used(7, 1000000000, 10000)}, "xref\n7 1\n1000000000 10000 n \n"},
		{[]Entry{used(7, 999999999, 9999)}, "xref\n7 1\n0999999999 09999 n \n"},
	} {
		checkWrite(t, x.l, x.want, api.OK)
	}
	// All that there may be, and each line of an entry of 20 bytes.
	for _, first := range []int{0, 1, 4095} {
		l := row(first, 4096-first)
		want, e := wantWrite(l)
		checkWrite(t, l, want, e)
		if lines := strings.SplitAfter(want, "\n"); len(lines) != 3+len(l) || slices.ContainsFunc(lines[2:len(lines)-1], func(s string) bool { return len(s) != 20 }) {
			t.Error(first, len(lines))
		}
	}
	even := []Entry{}
	for n := 0; n < 4096; n += 2 {
		even = append(even, used(n, n, 0))
	}
	want, e := wantWrite(even)
	checkWrite(t, even, want, e)
}

func TestWriteWrong(t *testing.T) {
	for _, x := range []struct {
		l []Entry
		e api.Errno
	}{
		// Below 0.
		{[]Entry{used(-1, 0, 0)}, api.ErrArg}, {[]Entry{used(0, -1, 0)}, api.ErrArg}, {[]Entry{used(0, 0, -1)}, api.ErrArg}, {[]Entry{free(1, 0, -1)}, api.ErrArg}, {[]Entry{free(1, -1, 0)}, api.ErrArg}, {[]Entry{used(-2, 0, 0), used(-1, 0, 0), used(0, 0, 0)}, api.ErrArg},
		{[]Entry{used(math.MinInt, 0, 0)}, api.ErrArg}, {[]Entry{used(0, math.MinInt, 0)}, api.ErrArg}, {[]Entry{used(0, 0, math.MinInt)}, api.ErrArg}, {[]Entry{used(0, -12345678901, 0)}, api.ErrArg}, {[]Entry{used(0, 0, -123456)}, api.ErrArg}, {[]Entry{used(-4096, 0, 0)}, api.ErrArg},
		// Numbers that don't rise.
		{[]Entry{used(1, 0, 0), used(1, 0, 0)}, api.ErrArg}, {[]Entry{used(1, 0, 0), used(0, 0, 0)}, api.ErrArg}, {[]Entry{used(0, 0, 0), used(0, 5, 5)}, api.ErrArg}, {[]Entry{used(0, 0, 0), used(5, 0, 0), used(4, 0, 0)}, api.ErrArg}, {[]Entry{used(0, 0, 0), used(5, 0, 0), used(3, 0, 0), used(9, 0, 0)}, api.ErrArg}, {[]Entry{used(1, 0, 0), used(2, 0, 0), used(3, 0, 0), used(3, 0, 0)}, api.ErrArg},
		// Too great.
		{[]Entry{used(0, 10000000000, 0)}, api.ErrRange}, {[]Entry{used(0, math.MaxInt, 0)}, api.ErrRange}, {[]Entry{used(0, 0, 100000)}, api.ErrRange}, {[]Entry{used(0, 0, math.MaxInt)}, api.ErrRange}, {[]Entry{used(4096, 0, 0)}, api.ErrRange}, {[]Entry{used(math.MaxInt, 0, 0)}, api.ErrRange}, {[]Entry{used(4095, 0, 0), used(4096, 0, 0)}, api.ErrRange}, {row(0, 4097), api.ErrRange}, {row(1, 4096), api.ErrRange}, {[]Entry{free(0, 0, 0), free(1, 10000000000, 100000)}, api.ErrRange},
		{[]Entry{used(math.MaxInt-1, 0, 0), used(math.MaxInt, 0, 0)}, api.ErrRange},
		// Of both the first one of the row, wherever it stands.
		{[]Entry{used(4096, 0, 0), used(4096, 0, 0)}, api.ErrArg}, {[]Entry{used(4096, 0, 0), used(4095, 0, 0)}, api.ErrArg}, {[]Entry{used(0, 10000000000, 0), used(1, -1, 0)}, api.ErrArg}, {[]Entry{used(0, 0, 100000), used(1, 0, -1)}, api.ErrArg}, {[]Entry{used(0, 10000000000, -1)}, api.ErrArg}, {[]Entry{used(0, -1, 100000)}, api.ErrArg}, {[]Entry{used(4096, -1, 0)}, api.ErrArg}, {[]Entry{used(-1, 10000000000, 0)}, api.ErrArg}, {[]Entry{used(4096, 0, 0), used(4097, 0, 0), used(4098, 0, -1)}, api.ErrArg}, {append(row(0, 5000), used(4999, 0, 0)), api.ErrArg},
		{[]Entry{used(math.MaxInt, 0, 0), used(math.MinInt, 0, 0)}, api.ErrArg},
	} {
		checkWrite(t, x.l, "", x.e)
	}
	// Each number that is wrong, at each place of a list.
	for i := range 12 {
		for wrong, e := range map[Entry]api.Errno{{Off: -1}: api.ErrArg, {Gen: -1}: api.ErrArg, {Off: 1e10}: api.ErrRange, {Gen: 1e5}: api.ErrRange, {Off: 1e10 - 1, Gen: 1e5 - 1}: api.OK} {
			l := append(row(0, 5), row(7, 7)...)
			wrong.N = l[i].N
			l[i] = wrong
			want, wantE := wantWrite(l)
			if e != wantE {
				t.Error(l, wantE)
			}
			checkWrite(t, l, want, e)
		}
	}
}
