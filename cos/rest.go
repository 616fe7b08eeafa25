package cos

import (
	"slices"
	"strings"

	"inkstand/api"
	"inkstand/lex"
)

// rest is what is left of a text: all of s from at on. Its methods take what is next and stand behind it then; with an error they stand anywhere.
type rest struct {
	s  string
	at int
	// How many Arrs and Dicts are open.
	depth int
}

// token takes the next token.
func (r *rest) token() (lex.Token, api.Errno) {
	t, err := lex.Next(r.s, r.at)
	if err != api.OK {
		return lex.Token{}, err
	}
	r.at = t.To
	return t, api.OK
}

// wanted takes the next token, which must fit.
func (r *rest) wanted(fits func(t lex.Token) bool) (lex.Token, api.Errno) {
	t, err := r.token()
	switch {
	case err != api.OK:
		return lex.Token{}, err
	case t.Kind == lex.End:
		return lex.Token{}, api.ErrShort
	case !fits(t):
		return lex.Token{}, api.ErrForm
	}
	return t, api.OK
}

// words takes the Words of a list, one behind the other.
func (r *rest) words(l ...string) api.Errno {
	for _, s := range l {
		if _, err := r.wanted(func(t lex.Token) bool { return isWord(t, s) }); err != api.OK {
			return err
		}
	}
	return api.OK
}

// object takes the next object.
func (r *rest) object() (api.Obj, api.Errno) {
	t, err := r.token()
	if err != api.OK {
		return api.Obj{}, err
	}
	return r.objectOf(t)
}

// objectOf is the object that begins with a token, which is taken already.
func (r *rest) objectOf(t lex.Token) (api.Obj, api.Errno) {
	switch t.Kind {
	case lex.End:
		return api.Obj{}, api.ErrShort
	case lex.Number:
		return r.numberOf(t), api.OK
	case lex.Name:
		return Word(t.S), api.OK
	case lex.Text:
		return api.Obj{Kind: api.Str, S: t.S}, api.OK
	case lex.Word:
		return wordOf(t)
	case lex.Open:
		return r.arrOf()
	case lex.Begin:
		return r.dictOf()
	}
	return api.Obj{}, api.ErrForm
}

// numberOf is the Ref that begins with a Number, or else its Num.
func (r *rest) numberOf(t lex.Token) api.Obj {
	if !isCount(t) {
		return numOf(t)
	}
	// What goes ahead is another one: where no Ref stands, r stays right behind the Number.
	ahead := *r
	o, ok := ahead.refOf(t)
	if !ok {
		return numOf(t)
	}
	*r = ahead
	return o
}

// refOf is the Ref that begins with a Number, if the rest of one is next.
func (r *rest) refOf(n lex.Token) (api.Obj, bool) {
	// A token with an error is the zero one, an End, that is neither: the error counts when it is come to.
	g, _ := r.token()
	if !isCount(g) {
		return api.Obj{}, false
	}
	if word, _ := r.token(); !isWord(word, "R") {
		return api.Obj{}, false
	}
	return pair(n, g), true
}

// arrOf is the Arr whose Open is taken already.
func (r *rest) arrOf() (api.Obj, api.Errno) {
	l, err := upTo(r, lex.Close, r.objectOf)
	if err != api.OK {
		return api.Obj{}, err
	}
	return api.Obj{Kind: api.Arr, L: l}, api.OK
}

// dictOf is the Dict whose Begin is taken already.
func (r *rest) dictOf() (api.Obj, api.Errno) {
	d, err := upTo(r, lex.Finish, r.entryOf)
	if err != api.OK {
		return api.Obj{}, err
	}
	return api.Obj{Kind: api.Dict, D: settled(d)}, api.OK
}

// entryOf is the entry whose key is a token, which is taken already.
func (r *rest) entryOf(key lex.Token) (api.Entry, api.Errno) {
	if key.Kind != lex.Name {
		return api.Entry{}, api.ErrForm
	}
	v, err := r.object()
	if err != api.OK {
		return api.Entry{}, err
	}
	return api.Entry{Key: key.S, V: v}, api.OK
}

// upTo takes what begins with each token by one, up to a token of the kind end.
func upTo[T any](r *rest, end int, one func(t lex.Token) (T, api.Errno)) ([]T, api.Errno) {
	if r.depth == api.MaxDepth {
		return nil, api.ErrDeep
	}
	r.depth++
	var l []T
	for {
		t, err := r.token()
		switch {
		case err != api.OK:
			return nil, err
		case t.Kind == end:
			r.depth--
			return l, api.OK
		case t.Kind == lex.End:
			return nil, api.ErrShort
		case len(l) == api.MaxKids:
			return nil, api.ErrLarge
		}
		v, err := one(t)
		if err != api.OK {
			return nil, err
		}
		l = append(l, v)
	}
}

// head takes a numbered object's numbers, as a Ref of these, and the Word behind them.
func (r *rest) head() (api.Obj, api.Errno) {
	n, err := r.wanted(isCount)
	if err != api.OK {
		return api.Obj{}, err
	}
	g, err := r.wanted(isCount)
	if err != api.OK {
		return api.Obj{}, err
	}
	if err := r.words("obj"); err != api.OK {
		return api.Obj{}, err
	}
	return pair(n, g), api.OK
}

// body takes a numbered object, and what ends it.
func (r *rest) body() (api.Obj, api.Errno) {
	o, err := r.object()
	if err != api.OK {
		return api.Obj{}, err
	}
	ends := func(t lex.Token) bool {
		return isWord(t, "endobj") || isWord(t, "stream") && o.Kind == api.Dict
	}
	t, err := r.wanted(ends)
	if err != api.OK {
		return api.Obj{}, err
	}
	if isWord(t, "stream") {
		return r.streamOf(o)
	}
	return o, api.OK
}

// streamOf is the Stream of a Dict, whose Word stream is taken already.
func (r *rest) streamOf(o api.Obj) (api.Obj, api.Errno) {
	length := Get(o, "Length")
	if !r.lineEnd() || !isLength(length) {
		return api.Obj{}, api.ErrForm
	}
	n := units(length.F)
	if n > len(r.s)-r.at {
		return api.Obj{}, api.ErrShort
	}
	data := r.s[r.at : r.at+n]
	r.at += n
	if err := r.words("endstream", "endobj"); err != api.OK {
		return api.Obj{}, err
	}
	return api.Obj{Kind: api.Stream, D: o.D, S: data}, api.OK
}

// lineEnd takes the end of a line, if it is next.
func (r *rest) lineEnd() bool {
	// Both ahead of CR alone: the LF behind a CR is none of the bytes.
	for _, end := range [3]string{"\r\n", "\n", "\r"} {
		if strings.HasPrefix(r.s[r.at:], end) {
			r.at += len(end)
			return true
		}
	}
	return false
}

// settled is the entries as they are by their keys, of entries as they were written.
func settled(written []api.Entry) []api.Entry {
	places := map[string]int{}
	var d []api.Entry
	for _, e := range written {
		at, met := places[e.Key]
		switch {
		case met && isNull(e.V):
			// It keeps its place till all are settled, as the places of others hang on it.
			d[at].V = api.Obj{}
			delete(places, e.Key)
		case met:
			d[at].V = e.V
		case !isNull(e.V):
			places[e.Key] = len(d)
			d = append(d, e)
		}
	}
	return slices.DeleteFunc(d, func(e api.Entry) bool { return isNull(e.V) })
}

// wordOf is the object that a Word stands for.
func wordOf(t lex.Token) (api.Obj, api.Errno) {
	switch t.S {
	case "true":
		return api.Obj{Kind: api.Bool, N: 1}, api.OK
	case "false":
		return api.Obj{Kind: api.Bool}, api.OK
	case "null":
		return api.Obj{}, api.OK
	}
	return api.Obj{}, api.ErrForm
}

// numOf is the Num of a Number.
func numOf(t lex.Token) api.Obj {
	o := api.Obj{Kind: api.Num, F: t.F}
	if t.Whole {
		o.N = 1
	}
	return o
}

// pair is the Ref of two Numbers.
func pair(n, g lex.Token) api.Obj { return api.Obj{Kind: api.Ref, N: units(n.F), F: g.F} }

// isCount: is a token a Number that is Whole, at least 0?
func isCount(t lex.Token) bool { return t.Kind == lex.Number && t.Whole && t.F >= 0 }

func isWord(t lex.Token, s string) bool { return t.Kind == lex.Word && t.S == s }

// isLength: may an object tell how many bytes a Stream has? Of an object, other than of a token, it is its thousandths that make it Whole, not how it was written.
func isLength(o api.Obj) bool { return o.Kind == api.Num && o.F >= 0 && o.F%api.Scale == 0 }
