package cos

import (
	"slices"

	"inkstand/api"
	"inkstand/lex"
)

// P4.1, P4.2: answers by the document's words, told by a pile of what is open, over the tokens.

type open struct {
	o     api.Obj
	end   int
	count int
	key   *string
}

// put puts an object, or a key, into what is open.
func (p *open) put(o api.Obj) {
	switch {
	case p.end == lex.Close:
		p.o.L = append(p.o.L, o)
	case p.key == nil:
		p.key = &o.S
		return
	default:
		p.o = Set(p.o, *p.key, o)
		p.key = nil
	}
	p.count++
}

// fits asks for the error of a token that doesn't close what is open.
func (p *open) fits(k lex.Token) api.Errno {
	switch {
	case k.Kind == lex.End:
		return api.ErrShort
	case p.count == 1024 && p.key == nil:
		return api.ErrLarge
	case p.end == lex.Finish && p.key == nil && k.Kind != lex.Name:
		return api.ErrForm
	}
	return api.OK
}

func wantParse(s string, at int) (api.Obj, int, api.Errno) {
	var pile []*open
	for {
		k, e := lex.Next(s, at)
		if e != api.OK {
			return null, 0, e
		}
		at = k.To
		var o api.Obj
		top := len(pile) - 1
		switch {
		case top >= 0 && k.Kind == pile[top].end && pile[top].key == nil:
			o, pile = pile[top].o, pile[:top]
		case top >= 0 && pile[top].fits(k) != api.OK:
			return null, 0, pile[top].fits(k)
		case (k.Kind == lex.Open || k.Kind == lex.Begin) && len(pile) == 64:
			return null, 0, api.ErrDeep
		case k.Kind == lex.Open:
			pile = append(pile, &open{o: arr(), end: lex.Close})
			continue
		case k.Kind == lex.Begin:
			pile = append(pile, &open{o: dict(), end: lex.Finish})
			continue
		default:
			if o, at, e = wantPlain(s, k); e != api.OK {
				return null, 0, e
			}
		}
		if len(pile) == 0 {
			return o, at, api.OK
		}
		pile[len(pile)-1].put(o)
	}
}

func wantPlain(s string, k lex.Token) (api.Obj, int, api.Errno) {
	switch k.Kind {
	case lex.Number:
		o, to := wantNumber(s, k)
		return o, to, api.OK
	case lex.Name:
		return name(k.S), k.To, api.OK
	case lex.Text:
		return text(k.S), k.To, api.OK
	case lex.End:
		return null, 0, api.ErrShort
	case lex.Word:
		words := map[string]api.Obj{"true": truth(1), "false": truth(0), "null": null}
		if o, ok := words[k.S]; ok {
			return o, k.To, api.OK
		}
	}
	return null, 0, api.ErrForm
}

func wantNumber(s string, k lex.Token) (api.Obj, int) {
	if g, e := lex.Next(s, k.To); e == api.OK && g.Kind == lex.Number {
		if w, e := lex.Next(s, g.To); e == api.OK && w.Kind == lex.Word && w.S == "R" && k.Whole && g.Whole && k.F >= 0 && g.F >= 0 {
			return api.Obj{Kind: api.Ref, N: int(k.F) / 1000, F: g.F}, w.To
		}
	}
	if k.Whole {
		return api.Obj{Kind: api.Num, N: 1, F: k.F}, k.To
	}
	return pointed(k.F), k.To
}

// wantIndirect is a form of steps, each of which a token has to fit.
func wantIndirect(s string, at int) (n, g int, o api.Obj, to int, e api.Errno) {
	var last lex.Token
	next := func(fits func() bool) bool {
		if e != api.OK {
			return false
		}
		last, e = lex.Next(s, at)
		if e == api.OK && last.Kind == lex.End {
			e = api.ErrShort
		} else if e == api.OK && !fits() {
			e = api.ErrForm
		}
		at = last.To
		return e == api.OK
	}
	number := func() bool { return last.Kind == lex.Number && last.Whole && last.F >= 0 }
	word := func(l ...string) func() bool {
		return func() bool { return last.Kind == lex.Word && slices.Contains(l, last.S) }
	}
	if next(number) {
		n = int(last.F) / 1000
	}
	if next(number) {
		g = int(last.F) / 1000
	}
	if next(word("obj")) {
		o, at, e = wantParse(s, at)
	}
	ends := []string{"endobj", "stream"}
	if o.Kind != api.Dict {
		ends = ends[:1]
	}
	if next(word(ends...)) && last.S == "stream" {
		length, ok := wantLength(o)
		behind := wantLine(s[at:])
		switch {
		case !ok || behind == 0:
			e = api.ErrForm
		case at+behind+length > len(s):
			e = api.ErrShort
		default:
			at += behind
			o = stream(s[at:at+length], o.D...)
			at += length
		}
		next(word("endstream"))
		next(word("endobj"))
	}
	if e != api.OK {
		return 0, 0, null, 0, e
	}
	return n, g, o, at, api.OK
}

func wantLength(o api.Obj) (int, bool) {
	for _, e := range o.D {
		if e.Key == "Length" {
			return int(e.V.F) / 1000, e.V.Kind == api.Num && e.V.F >= 0 && e.V.F%1000 == 0
		}
	}
	return 0, false
}

// wantLine is how many bytes the end of a line has with which s begins.
func wantLine(s string) int {
	switch {
	case s == "" || s[0] != 10 && s[0] != 13:
		return 0
	case s[0] == 13 && len(s) > 1 && s[1] == 10:
		return 2
	}
	return 1
}
