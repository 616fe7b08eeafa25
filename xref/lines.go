package xref

import (
	"slices"
	"strconv"
	"strings"

	"inkstand/api"
)

// How many digits an entry's numbers have as they are written.
const (
	offDigits = 10
	genDigits = 5
)

// sane is why entries may not be written, or OK.
func sane(l []Entry) api.Errno {
	// Each N is above the one ahead: so none is below 0, if the first one isn't.
	last := -1
	for _, e := range l {
		if e.N <= last || e.Off < 0 || e.Gen < 0 {
			return api.ErrArg
		}
		last = e.N
	}
	if slices.ContainsFunc(l, tooGreat) {
		return api.ErrRange
	}
	return api.OK
}

// tooGreat: has an entry a number that is too great?
func tooGreat(e Entry) bool {
	return len(strconv.Itoa(e.Off)) > offDigits || len(strconv.Itoa(e.Gen)) > genDigits || e.N >= api.MaxObj
}

// run is how many entries from the first one on have numbers one behind the other.
func run(l []Entry) int {
	n := 1
	for n < len(l) && l[n].N == l[0].N+n {
		n++
	}
	return n
}

// appendSection appends a run's lines.
func appendSection(out []byte, l []Entry) []byte {
	out = strconv.AppendInt(out, int64(l[0].N), 10)
	out = append(out, ' ')
	out = strconv.AppendInt(out, int64(len(l)), 10)
	out = append(out, '\n')
	for _, e := range l {
		out = append(out, padded(e.Off, offDigits)...)
		out = append(out, ' ')
		out = append(out, padded(e.Gen, genDigits)...)
		out = append(out, endOf(e)...)
	}
	return out
}

// endOf is what stands behind an entry's numbers: the blank ahead of LF makes all lines of entries as long as ISO 32000-1 asks.
func endOf(e Entry) string {
	if e.Used {
		return " n \n"
	}
	return " f \n"
}

// padded is a number with 0 ahead up to so many digits.
func padded(n, digits int) string {
	s := strconv.Itoa(n)
	return strings.Repeat("0", digits-len(s)) + s
}
