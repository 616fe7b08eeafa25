package xref

import (
	"fmt"
	"math/big"
	"regexp"
	"slices"
	"strings"

	"inkstand/api"
	"inkstand/cos"
	"inkstand/lex"
)

// P8.1 to P8.4: answers by the document's words, told another way than the program's.

// blanks is white and comments; what is behind them is one of the other patterns, or nothing of these.
const (
	blanks  = "^(?:[\x00\t\n\f\r ]|%[^\n\r]*(?:[\n\r]|$))*"
	regular = "[^\x00\t\n\f\r ()<>\\[\\]{}/%]"
)

var (
	numberAhead = regexp.MustCompile(blanks + "([+.0-9-]" + regular + "*)")
	allDigits   = regexp.MustCompile(`^[+-]?[0-9]+$`)
	pointedOne  = regexp.MustCompile(`^[+-]?([0-9]+\.[0-9]*|\.[0-9]+)$`)
)

func wantStart(s string) (int, api.Errno) {
	pieces := strings.Split(s, "startxref")
	number := numberAhead.FindStringSubmatch(pieces[len(pieces)-1])
	if len(pieces) == 1 || number == nil {
		return 0, api.ErrForm
	}
	n := number[1]
	value, ok := new(big.Rat).SetString(strings.TrimPrefix(n, "+"))
	switch {
	case len(n) > 400:
		return 0, api.ErrRange
	case !allDigits.MatchString(n) && !pointedOne.MatchString(n) || !ok:
		return 0, api.ErrForm
	case new(big.Rat).Abs(value).Cmp(big.NewRat(21474836485, 10000)) >= 0:
		// 2147483.648 is the greatest one; what is rounded to it may be.
		return 0, api.ErrRange
	case strings.Contains(n, ".") || value.Sign() < 0:
		return 0, api.ErrForm
	case value.Cmp(big.NewRat(int64(len(s)), 1)) > 0:
		return 0, api.ErrRange
	}
	return int(value.Num().Int64()), api.OK
}

// machine reads tokens: what it waits for tells what may be next.
type machine struct {
	waits       string
	first, left int
	off, gen    int
	l           []Entry
	trailerFrom int
}

// eat takes a token that is not the end.
func (m *machine) eat(t lex.Token) api.Errno {
	number := -1
	if t.Kind == lex.Number && t.Whole && t.F >= 0 {
		number = int(t.F) / 1000
	}
	word := ""
	if t.Kind == lex.Word {
		word = t.S
	}
	switch {
	case m.waits == "xref" && word == "xref":
		m.waits = "section"
	case m.waits == "section" && word == "trailer":
		m.waits, m.trailerFrom = "trailer", t.To
	case m.waits == "section" && number >= 0:
		m.waits, m.first = "count", number
	case m.waits == "count" && number > 0 && m.first+number-1 >= 4096:
		return api.ErrLarge
	case m.waits == "count" && number >= 0:
		m.left = number
		m.turn()
	case m.waits == "off" && number >= 0:
		m.waits, m.off = "gen", number
	case m.waits == "gen" && number >= 0:
		m.waits, m.gen = "word", number
	case m.waits == "word" && (word == "n" || word == "f"):
		m.l = append(m.l, Entry{m.first, m.off, m.gen, word == "n"})
		m.first, m.left = m.first+1, m.left-1
		m.turn()
	default:
		return api.ErrForm
	}
	return api.OK
}

// turn waits for the section's next entry, or behind its last one for the next section.
func (m *machine) turn() {
	m.waits = "off"
	if m.left == 0 {
		m.waits = "section"
	}
}

func wantParse(s string, at int) ([]Entry, api.Obj, api.Errno) {
	m := machine{waits: "xref"}
	for m.waits != "trailer" {
		t, e := lex.Next(s, at)
		switch {
		case e != api.OK:
			return nil, api.Obj{}, e
		case t.Kind == lex.End:
			return nil, api.Obj{}, api.ErrShort
		}
		if e := m.eat(t); e != api.OK {
			return nil, api.Obj{}, e
		}
		at = t.To
	}
	o, _, e := cos.Parse(s, m.trailerFrom)
	if e == api.OK && o.Kind != api.Dict {
		e = api.ErrForm
	}
	if e != api.OK {
		return nil, api.Obj{}, e
	}
	return m.l, o, api.OK
}

func wantWrite(l []Entry) (string, api.Errno) {
	errors := []api.Errno{}
	groups := [][]Entry{}
	for i, e := range l {
		if e.N < 0 || e.Off < 0 || e.Gen < 0 || i > 0 && e.N <= l[i-1].N {
			errors = append(errors, api.ErrArg)
		}
		if e.N > 4095 || e.Off > 9999999999 || e.Gen > 99999 {
			errors = append(errors, api.ErrRange)
		}
		if i == 0 || e.N-1 != l[i-1].N {
			groups = append(groups, nil)
		}
		groups[len(groups)-1] = append(groups[len(groups)-1], e)
	}
	if len(errors) > 0 {
		return "", slices.Min(errors)
	}
	out := "xref\n"
	for _, g := range groups {
		out += fmt.Sprintf("%d %d\n", g[0].N, len(g))
		for _, e := range g {
			out += fmt.Sprintf("%010d %05d %c \n", e.Off, e.Gen, map[bool]rune{true: 'n', false: 'f'}[e.Used])
		}
	}
	return out, api.OK
}

func wantMerge(young, old []Entry) []Entry {
	numbers := []int{}
	for _, l := range [][]Entry{young, old} {
		for _, e := range l {
			numbers = append(numbers, e.N)
		}
	}
	slices.Sort(numbers)
	l := []Entry{}
	for _, n := range slices.Compact(numbers) {
		is := func(e Entry) bool { return e.N == n }
		if i := slices.IndexFunc(young, is); i >= 0 {
			l = append(l, young[i])
		} else {
			l = append(l, old[slices.IndexFunc(old, is)])
		}
	}
	return l
}
