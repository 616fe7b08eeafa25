package xref

import (
	"fmt"
	"strings"
	"testing"

	"inkstand/api"
)

// P8.1

func TestStart(t *testing.T) {
	for s, want := range map[string]int{
		"startxref 0": 0, "startxref\n5\n%%EOF": 5, "startxref\r\n14\r\n%%EOF": 14, "startxref0": 0,
		"12startxref 7": 7, "xstartxref 7": 7, "%startxref 7": 7, "(startxref 7": 7, "/startxref7": 7, "<startxref 7>": 7,
		// White and comments between.
		"startxref\x00\t\n\f\r 7": 7, "startxref%x\n7": 7, "startxref %1\r%2\r\n%(\n 7": 7,
		// Numbers that are whole however they are written.
		"startxref +7": 7, "startxref -0": 0, "startxref 007": 7, "startxref 0000000015": 15, "startxref +000": 0,
		// What stands behind the number is not looked at.
		"startxref 7(": 7, "startxref 7)": 7, "startxref 7 )": 7, "startxref 7/A": 7, "startxref 7[": 7, "startxref 7%": 7, "startxref 7>": 7, "startxref 7 8": 7, "startxref 7 x": 7, "startxref 7 99999999": 7, "startxref 7<": 7, "startxref 7{": 7,
		// The last one counts.
		"startxref 1 startxref 2": 2, "startxref 2 startxref 1": 1, "startxref 1\n%%EOF\nstartxref 3\n%%EOF\nstartxref 2\n%%EOF": 2, "startxref x startxref 2": 2, "startxref startxref 2": 2, "startxrefstartxref 2": 2, "startxref 1 %startxref 2": 2, "startxref 1 (startxref 2": 2, "startxref 99 startxref 2": 2, "startxref 1 Startxref 2": 1, "startxref 1 startxre f 2": 1, "startxref 1 start xref 2": 1, "startxref 1 startxre": 1, "startxref 1startxref2": 2,
	} {
		checkStart(t, s, want, api.OK)
		checkStart(t, "\xff\n"+s, want, api.OK)
	}
}

// Numbers around the length, which may be just as great.
func TestStartLength(t *testing.T) {
	for more := range 300 {
		for _, behind := range []string{"", "\n%%EOF\n"} {
			length := more + len("startxref 0000") + len(behind)
			for n := length - 3; n < length+4; n++ {
				s := fmt.Sprintf("%sstartxref %04d%s", strings.Repeat("x", more), n, behind)
				if n <= length {
					checkStart(t, s, n, api.OK)
				} else {
					checkStart(t, s, 0, api.ErrRange)
				}
			}
		}
	}
	checkStart(t, "startxref9", 9, api.OK)
	checkStart(t, "startxref11", 11, api.OK)
	checkStart(t, "startxref12", 0, api.ErrRange)
	checkStart(t, "startxref 12", 12, api.OK)
	checkStart(t, "startxref 13", 0, api.ErrRange)
	for n, e := range map[int]api.Errno{2147483: api.OK, 2147482: api.OK, 2147484: api.ErrRange, 2999999: api.ErrRange, 0: api.OK, 9999999999: api.ErrRange} {
		want := n
		if e != api.OK {
			// As lex tells, of a number that may not be, though the text is so long.
			want = 0
		}
		checkStart(t, strings.Repeat(" ", 3000000)+fmt.Sprint("startxref ", n), want, e)
	}
	checkStart(t, strings.Repeat("startxref 1\n", 100000)+"startxref 1200000", 1200000, api.OK)
	checkStart(t, strings.Repeat(" ", 2147483-len("startxref2147483"))+"startxref2147483", 2147483, api.OK)
	checkStart(t, strings.Repeat(" ", 2147482-len("startxref2147483"))+"startxref2147483", 0, api.ErrRange)
}

func TestStartWrong(t *testing.T) {
	for _, s := range []string{
		// None.
		"", " ", "5", "xref 5", "startxre 5", "tartxref 5", "Startxref 5", "STARTXREF 5", "start xref 5", "start%\nxref 5", "startxre\x00f 5",
		// Nothing behind it.
		"startxref", "startxref ", "startxref\n\n", "startxref%5", "startxref 5 startxref", "startxref 5 startxref %%EOF", "startxref\x00",
		// Something else behind it.
		"startxref x", "startxrefx", "startxref x5", "startxref xref 0", "startxref x 5", "startxref null", "startxref /5", "startxref/A", "startxref (5)", "startxref <35>", "startxref [5]", "startxref [", "startxref ]5", "startxref << 5", "startxref <<>>", "startxref >> 5", "startxref \xff5",
		"startxref 5 startxref x", "startxref 5 startxref (5)", "startxref 5 startxrefx 6",
		// Numbers that are not whole.
		"startxref 5.0", "startxref 5.", "startxref .5", "startxref 0.0", "startxref .0", "startxref -5", "startxref -1", "startxref -5.0", "startxref 0.0001", "startxref 5.5", "startxref +5.", "startxref -0.0",
		// What lex tells ErrForm.
		"startxref )", "startxref >", "startxref {5}", "startxref }5", "startxref 5a", "startxref 5x5", "startxref +", "startxref -", "startxref .", "startxref --5", "startxref 5-", "startxref 1e1", "startxref 0x5", "startxref /#5", "startxref <5x>", "startxref +-5", "startxref ++5",
		// What lex tells ErrShort.
		"startxref (", "startxref (5", "startxref 5 startxref (5", "startxref <", "startxref <35", "startxref (\\", "startxref((5)", "startxref<3 5 ",
	} {
		checkStart(t, s, 0, api.ErrForm)
		checkStart(t, "99 "+s, 0, api.ErrForm)
	}
	for _, s := range []string{
		// Above the length.
		"startxref 99", "startxref 2147483", "startxref\n20\n%%EOF", "startxref +14", "startxref 000017", "startxref 1 startxref 99",
		// What lex tells ErrRange, whole or not.
		"startxref 2147484", "startxref 99999999", "startxref -99999999", "startxref 99999999.5", "startxref 9999999999", "startxref 1 startxref 2147484", "startxref -2147484", "startxref 99999999999999999999999", "startxref " + strings.Repeat("0", 401), "startxref 1" + strings.Repeat("x", 400), "startxref ." + strings.Repeat("0", 401),
	} {
		checkStart(t, s, 0, api.ErrRange)
	}
	checkStart(t, "startxref "+strings.Repeat("0", 400), 0, api.OK)
	checkStart(t, "startxref "+strings.Repeat("0", 397)+"123", 123, api.OK)
	checkStart(t, "startxref "+strings.Repeat("0", 397)+"411", 0, api.ErrRange)
	checkStart(t, "startxref x"+strings.Repeat("x", 400), 0, api.ErrForm)
}
