package write

import (
	"fmt"
	"math"
	"strings"
	"testing"

	"inkstand/api"
)

// P5.3

func TestIndirect(t *testing.T) {
	checkNumbered(t, 1, 0, null, "1 0 obj\nnull\nendobj\n", api.OK)
	for _, x := range []struct {
		o    api.Obj
		want string
	}{
		{truth(1), "true"}, {whole(-5), "-5"}, {pointed(5000), "5.0"}, {name("A B"), "/A#20B"}, {text("a(\n"), `(a\(\n)`}, {ref(3, 1), "3 1 R"}, {arr(), "[]"}, {arr(whole(1), name("A")), "[1 /A]"}, {dict(), "<<>>"}, {dict(entry("Length", whole(3)), entry("A", arr(null))), "<</Length 3 /A [null]>>"}, {filled(name("A")), "/A"},
	} {
		checkNumbered(t, 12, 3, x.o, "12 3 obj\n"+x.want+"\nendobj\n", api.OK)
	}
}

func TestIndirectNumbers(t *testing.T) {
	for _, x := range []struct {
		n, g int
		e    api.Errno
	}{
		{0, 0, api.OK}, {1, 0, api.OK}, {0, 1, api.OK}, {2147483, 0, api.OK}, {0, 2147483, api.OK}, {2147483, 2147483, api.OK}, {65536, 65535, api.OK},
		{-1, 0, api.ErrArg}, {0, -1, api.ErrArg}, {-1, -1, api.ErrArg}, {math.MinInt, 0, api.ErrArg}, {0, math.MinInt, api.ErrArg},
		{2147484, 0, api.ErrRange}, {0, 2147484, api.ErrRange}, {2147484, 2147484, api.ErrRange}, {math.MaxInt, 0, api.ErrRange}, {0, math.MaxInt, api.ErrRange}, {1 << 32, 0, api.ErrRange}, {0, 1 << 32, api.ErrRange},
		// Both.
		{2147484, -1, api.ErrArg}, {-1, 2147484, api.ErrArg}, {math.MaxInt, math.MinInt, api.ErrArg},
	} {
		head := fmt.Sprintf("%d %d obj\n", x.n, x.g)
		for o, told := range map[string]string{"null": "null\nendobj\n", "s": "<</Length 1>>\nstream\ns\nendstream\nendobj\n"} {
			want := head + told
			if x.e != api.OK {
				want = ""
			}
			checkNumbered(t, x.n, x.g, map[string]api.Obj{"null": null, "s": stream("s")}[o], want, x.e)
		}
		// They go ahead of what is wrong with the object.
		for _, wrong := range []struct {
			o api.Obj
			e api.Errno
		}{
			{truth(2), api.ErrArg}, {pointed(1 << 40), api.ErrRange}, {arr(objects(1025)...), api.ErrLarge}, {nested(65, null, api.Arr), api.ErrDeep}, {stream(strings.Repeat("s", 1<<20+1)), api.ErrLarge}, {stream("s", entries(1024)...), api.ErrLarge},
		} {
			checkNumbered(t, x.n, x.g, wrong.o, "", firstOf(x.e, wrong.e))
		}
	}
}

func TestIndirectStream(t *testing.T) {
	a, b := entry("A", whole(1)), entry("B", text("b"))
	for _, x := range []struct {
		o    api.Obj
		want string
	}{
		{stream(""), "<</Length 0>>\nstream\n\nendstream"}, {stream("ab"), "<</Length 2>>\nstream\nab\nendstream"},
		{stream("ab", a, b), "<</A 1 /B (b) /Length 2>>\nstream\nab\nendstream"},
		// A Length that is there already, at any place and of any kind.
		{stream("ab", entry("Length", whole(2))), "<</Length 2>>\nstream\nab\nendstream"}, {stream("ab", entry("Length", whole(7)), a), "<</Length 2 /A 1>>\nstream\nab\nendstream"}, {stream("ab", a, entry("Length", ref(7, 0)), b), "<</A 1 /Length 2 /B (b)>>\nstream\nab\nendstream"}, {stream("ab", a, b, entry("Length", pointed(2000))), "<</A 1 /B (b) /Length 2>>\nstream\nab\nendstream"}, {stream("ab", entry("Length", nested(63, null, api.Arr))), "<</Length 2>>\nstream\nab\nendstream"},
		{stream("ab", entry("length", whole(5)), entry("Lengths", whole(6))), "<</length 5 /Lengths 6 /Length 2>>\nstream\nab\nendstream"},
		// Bytes stand as they are.
		{stream("\n"), "<</Length 1>>\nstream\n\n\nendstream"}, {stream("\r\n)\\\xff\x00"), "<</Length 6>>\nstream\n\r\n)\\\xff\x00\nendstream"}, {stream("endstream endobj"), "<</Length 16>>\nstream\nendstream endobj\nendstream"}, {stream(allBytes()), "<</Length 256>>\nstream\n" + allBytes() + "\nendstream"},
		{api.Obj{Kind: api.Stream, N: -7, F: 1 << 40, S: "s", L: objects(1025), D: []api.Entry{a}}, "<</A 1 /Length 1>>\nstream\ns\nendstream"},
	} {
		checkNumbered(t, 4, 0, x.o, "4 0 obj\n"+x.want+"\nendobj\n", api.OK)
	}
}

// What is wrong with a Length counts, though another one is set.
func TestIndirectStreamWrong(t *testing.T) {
	for _, x := range []struct {
		v api.Obj
		e api.Errno
	}{
		{null, api.ErrArg}, {truth(2), api.ErrArg}, {stream("s"), api.ErrArg}, {pointed(1 << 40), api.ErrRange}, {arr(objects(1025)...), api.ErrLarge}, {nested(64, null, api.Arr), api.ErrDeep},
	} {
		checkNumbered(t, 1, 0, stream("s", entry("Length", x.v)), "", x.e)
		checkNumbered(t, 1, 0, stream(strings.Repeat("s", 1<<20+1), entry("Length", x.v)), "", x.e)
	}
	checkNumbered(t, 1, 0, stream("s", entry("Length", whole(1)), entry("Length", whole(1))), "", api.ErrArg)
}

func TestIndirectStreamLimits(t *testing.T) {
	for _, n := range []int{1<<20 - 1, 1 << 20, 1<<20 + 1, 3 << 20} {
		long := strings.Repeat("x", n)
		want, e := fmt.Sprintf("4 0 obj\n<</A /B /Length %d>>\nstream\n%s\nendstream\nendobj\n", n, long), api.OK
		if n > 1<<20 {
			want, e = "", api.ErrLarge
		}
		checkNumbered(t, 4, 0, stream(long, entry("A", name("B"))), want, e)
		checkNumbered(t, 4, 0, stream(long, entry("A", name("B")), entry("Length", whole(1))), want, e)
	}
	// Only a Stream's bytes are bounded.
	long := strings.Repeat("x", 1<<20+1)
	checkNumbered(t, 4, 0, text(long), "4 0 obj\n("+long+")\nendobj\n", api.OK)
	// More than may be told as a number.
	checkNumbered(t, 4, 0, stream(strings.Repeat("x", 2147484)), "", api.ErrLarge)
	checkNumbered(t, 4, 0, stream(strings.Repeat("x", 2147484), entries(1024)...), "", api.ErrLarge)

	for n, e := range map[int]api.Errno{1022: api.OK, 1023: api.OK, 1024: api.ErrLarge, 1025: api.ErrLarge} {
		if s, err := Indirect(4, 0, stream("s", entries(n)...)); err != e || (e != api.OK) != (s == "") || e == api.OK && !strings.Contains(s, fmt.Sprintf(" /K%d %d /Length 1>>\nstream\n", n-1, n-1)) {
			t.Errorf("%d entries without Length: %.80q %v", n, s, err)
		}
		// With one they are no more than before.
		d := append(entries(n-1), entry("Length", name("x")))
		if n == 1024 {
			e = api.OK
		}
		if s, err := Indirect(4, 0, stream("s", d...)); err != e || (e != api.OK) != (s == "") {
			t.Errorf("%d entries with Length: %.80q %v", n, s, err)
		}
	}
	checkNumbered(t, 4, 0, nested(64, null, api.Arr), "4 0 obj\n"+strings.Repeat("[", 64)+"null"+strings.Repeat("]", 64)+"\nendobj\n", api.OK)
	checkNumbered(t, 4, 0, stream("", entry("A", nested(63, null, api.Arr))), "4 0 obj\n<</A "+strings.Repeat("[", 63)+"null"+strings.Repeat("]", 63)+" /Length 0>>\nstream\n\nendstream\nendobj\n", api.OK)
}
