package xref

import (
	"inkstand/api"
	"inkstand/lex"
)

// reader stands in a text: its methods take what is next and stand behind it then; with an error they stand anywhere.
type reader struct {
	s  string
	at int
}

// token takes the next token, which must be there.
func (r *reader) token() (lex.Token, api.Errno) {
	t, err := lex.Next(r.s, r.at)
	if err == api.OK && t.Kind == lex.End {
		err = api.ErrShort
	}
	if err != api.OK {
		return lex.Token{}, err
	}
	r.at = t.To
	return t, api.OK
}

// whole takes a whole number.
func (r *reader) whole() (int, api.Errno) {
	t, err := r.token()
	switch {
	case err != api.OK:
		return 0, err
	case !isWhole(t):
		return 0, api.ErrForm
	}
	return wholeOf(t), api.OK
}

// entries takes a table, up to the Word trailer and with it.
func (r *reader) entries() ([]Entry, api.Errno) {
	t, err := r.token()
	switch {
	case err != api.OK:
		return nil, err
	case !isWord(t, "xref"):
		return nil, api.ErrForm
	}
	var l []Entry
	for {
		t, err := r.token()
		switch {
		case err != api.OK:
			return nil, err
		case isWord(t, "trailer"):
			return l, api.OK
		case !isWhole(t):
			return nil, api.ErrForm
		}
		section, err := r.sectionFrom(wholeOf(t))
		if err != api.OK {
			return nil, err
		}
		l = append(l, section...)
	}
}

// sectionFrom takes a section whose first number is taken already.
func (r *reader) sectionFrom(first int) ([]Entry, api.Errno) {
	n, err := r.whole()
	if err != api.OK {
		return nil, err
	}
	// A section of none has no last object, so it may begin anywhere.
	if n > 0 && first+n > api.MaxObj {
		return nil, api.ErrLarge
	}
	l := make([]Entry, n)
	for i := range l {
		if l[i], err = r.entry(first + i); err != api.OK {
			return nil, err
		}
	}
	return l, api.OK
}

// entry takes what a section tells of one object.
func (r *reader) entry(n int) (Entry, api.Errno) {
	off, err := r.whole()
	if err != api.OK {
		return Entry{}, err
	}
	gen, err := r.whole()
	if err != api.OK {
		return Entry{}, err
	}
	t, err := r.token()
	switch {
	case err != api.OK:
		return Entry{}, err
	case !isWord(t, "n") && !isWord(t, "f"):
		return Entry{}, api.ErrForm
	}
	return Entry{N: n, Off: off, Gen: gen, Used: t.S == "n"}, api.OK
}

// isWhole: is a token a whole number?
func isWhole(t lex.Token) bool { return t.Kind == lex.Number && t.Whole && t.F >= 0 }

// wholeOf is the number that a token is.
func wholeOf(t lex.Token) int { return int(t.F / api.Scale) }

func isWord(t lex.Token, s string) bool { return t.Kind == lex.Word && t.S == s }
