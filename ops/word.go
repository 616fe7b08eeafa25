package ops

import (
	"inkstand/api"
	"inkstand/cos"
	"inkstand/lex"
)

// More levels than any object has that isn't nested without an end.
const maxLevels = 1 << 16

// isOperator: is a token an operator, no object's?
func isOperator(t lex.Token) bool {
	if t.Kind != lex.Word {
		return false
	}
	switch t.S {
	case "true", "false", "null":
		return false
	}
	return true
}

// isName: is a text what one operator is read from, and nothing else? That of an image is none.
func isName(s string) bool {
	t, err := lex.Next(s, 0)
	return err == api.OK && isOperator(t) && t.S == s && s != image
}

// object is the one that begins with a token, and the place behind it.
func object(s string, t lex.Token) (api.Obj, int, api.Errno) {
	if t.Kind == lex.Number {
		// With nothing behind it, it is no Ref's first number.
		s = s[:t.To]
	}
	return cos.Parse(s, t.From)
}

// refs is ErrArg, if an object is a Ref, or one stands in it at any depth. Of an object that holds itself it is ErrDeep, as there is no end to what is looked for.
func refs(o api.Obj, level int) api.Errno {
	switch {
	case o.Kind == api.Ref:
		return api.ErrArg
	case level > maxLevels:
		return api.ErrDeep
	}
	for _, k := range inside(o) {
		if err := refs(k, level+1); err != api.OK {
			return err
		}
	}
	return api.OK
}

// inside is the objects that stand right in one.
func inside(o api.Obj) []api.Obj {
	switch o.Kind {
	case api.Arr:
		return o.L
	case api.Dict, api.Stream:
		var l []api.Obj
		for _, e := range o.D {
			l = append(l, e.V)
		}
		return l
	}
	return nil
}
