package ops

import (
	"regexp"
	"strings"

	"inkstand/api"
	"inkstand/lex"
	"inkstand/write"
)

// P11.1 to P11.3: answers by the document's words, told another way than the program's.

// open is an Arr or a Dict that is not closed yet; the list of an operator's objects is one that nothing closes.
type open struct {
	o     api.Obj
	end   int
	count int
	key   *string
}

func (p *open) put(o api.Obj) {
	switch {
	case p.end != lex.Finish:
		p.o.L = append(p.o.L, o)
	case p.key == nil:
		p.key = &o.S
		return
	default:
		p.o.D = wantSet(p.o.D, *p.key, o)
		p.key = nil
	}
	p.count++
}

// wantSet is entries with one more: the later one's object, at the first one's place; none, if it is null.
func wantSet(d []api.Entry, key string, o api.Obj) []api.Entry {
	var out []api.Entry
	put := o.Kind == api.Null
	for _, e := range d {
		if e.Key != key {
			out = append(out, e)
		} else if !put {
			out = append(out, entry(key, o))
			put = true
		}
	}
	if !put {
		out = append(out, entry(key, o))
	}
	return out
}

// fits asks for the error of a token that stands in an Arr or a Dict and doesn't close it.
func (p *open) fits(k lex.Token) api.Errno {
	switch {
	case k.Kind == lex.End:
		return api.ErrShort
	case p.count == 1024 && p.key == nil:
		return api.ErrLarge
	case p.end == lex.Finish && p.key == nil && k.Kind != lex.Name:
		return api.ErrForm
	}
	return api.OK
}

func wantParse(s string) ([]Op, api.Errno) {
	var l []Op
	pile := []*open{{end: -1}}
	for at := 0; ; {
		k, e := lex.Next(s, at)
		if e != api.OK {
			return nil, e
		}
		at = k.To
		top := pile[len(pile)-1]
		lies := k.Kind == lex.Word && k.S != "true" && k.S != "false" && k.S != "null"
		var o api.Obj
		switch {
		case len(pile) == 1 && k.Kind == lex.End:
			if top.count > 0 {
				return nil, api.ErrForm
			}
			return l, api.OK
		case len(pile) == 1 && lies:
			if len(l) == 65536 {
				return nil, api.ErrLarge
			}
			if k.S == "BI" {
				return nil, api.ErrForm
			}
			l = append(l, op(k.S, top.o.L...))
			pile[0] = &open{end: -1}
			continue
		case len(pile) == 1 && top.count == 64:
			return nil, api.ErrLarge
		case k.Kind == top.end && top.key == nil:
			o, pile = top.o, pile[:len(pile)-1]
		case len(pile) > 1 && top.fits(k) != api.OK:
			return nil, top.fits(k)
		case k.Kind == lex.Open || k.Kind == lex.Begin:
			if len(pile) == 65 {
				return nil, api.ErrDeep
			}
			pile = append(pile, &open{o: [9]api.Obj{lex.Open: arr(), lex.Begin: dict()}[k.Kind], end: k.Kind + 1})
			continue
		default:
			if o, at, e = wantPlain(s, k, len(pile) > 1); e != api.OK {
				return nil, e
			}
		}
		pile[len(pile)-1].put(o)
	}
}

// wantPlain is the object of a token that opens nothing; a Ref, if there may be one.
func wantPlain(s string, k lex.Token, mayRef bool) (api.Obj, int, api.Errno) {
	switch k.Kind {
	case lex.Number:
		g, _ := lex.Next(s, k.To)
		r, _ := lex.Next(s, g.To)
		if mayRef && k.Whole && k.F >= 0 && g.Kind == lex.Number && g.Whole && g.F >= 0 && r.Kind == lex.Word && r.S == "R" {
			return ref(int(k.F)/1000, int(g.F)/1000), r.To, api.OK
		}
		if k.Whole {
			return whole(int(k.F) / 1000), k.To, api.OK
		}
		return pointed(k.F), k.To, api.OK
	case lex.Name:
		return name(k.S), k.To, api.OK
	case lex.Text:
		return text(k.S), k.To, api.OK
	case lex.Word:
		if o, ok := map[string]api.Obj{"true": truth(1), "false": truth(0), "null": null}[k.S]; ok {
			return o, k.To, api.OK
		}
	}
	return null, 0, api.ErrForm
}

var (
	wrongName = regexp.MustCompile(`^$|[\x00\t\n\x0c\r ()<>\[\]{}/%]|^[-+.0-9]|^(true|false|null|BI)$`)
	textsIn   = regexp.MustCompile(`^([qQ]*BE)*[qQ]*$`)
)

func wantWrite(l []Op) (string, api.Errno) {
	if len(l) > 65536 {
		return "", api.ErrLarge
	}
	var out strings.Builder
	for _, o := range l {
		if wrongName.MatchString(latin(o.Name)) {
			return "", api.ErrArg
		}
		if len(o.Args) > 64 {
			return "", api.ErrLarge
		}
		for _, a := range o.Args {
			if wantRef(a) {
				return "", api.ErrArg
			}
			s, e := write.Object(a)
			if e != api.OK {
				return "", e
			}
			out.WriteString(s + " ")
		}
		out.WriteString(o.Name + "\n")
	}
	return out.String(), api.OK
}

// latin is each byte as a character, so that an expression may tell them.
func latin(s string) string {
	var out []rune
	for _, b := range []byte(s) {
		out = append(out, rune(b))
	}
	return string(out)
}

// wantRef goes over a pile of all that stands in an object.
func wantRef(o api.Obj) bool {
	for pile := []api.Obj{o}; len(pile) > 0; {
		o, pile = pile[len(pile)-1], pile[:len(pile)-1]
		switch o.Kind {
		case api.Ref:
			return true
		case api.Arr:
			pile = append(pile, o.L...)
		case api.Dict, api.Stream:
			for _, e := range o.D {
				pile = append(pile, e.V)
			}
		}
	}
	return false
}

// letters is of each q, Q, BT and ET of operators a letter: q, Q, B, E.
func letters(l []Op) string {
	out := ""
	for _, o := range l {
		out += map[string]string{"q": "q", "Q": "Q", "BT": "B", "ET": "E"}[o.Name]
	}
	return out
}

func wantBalanced(l []Op) bool {
	s := letters(l)
	if !textsIn.MatchString(s) {
		return false
	}
	s = strings.ReplaceAll(s, "BE", "")
	for strings.Contains(s, "qQ") {
		s = strings.ReplaceAll(s, "qQ", "")
	}
	return s == ""
}

func wantWrap(l []Op) []Op {
	s, most := letters(l), 0
	for i := range len(s) + 1 {
		most = max(most, strings.Count(s[:i], "Q")-strings.Count(s[:i], "q"))
	}
	out := append(named("q"+strings.Repeat(" q", most)), l...)
	all := letters(out)
	return append(out, named(strings.Repeat("Q ", strings.Count(all, "q")-strings.Count(all, "Q")-1)+"Q")...)
}
