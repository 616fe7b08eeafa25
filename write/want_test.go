package write

import (
	"fmt"
	"strings"

	"inkstand/api"
)

// P5.1 to P5.3: answers by the document's words, told another way than the program's.

// standing is an object and all that stand in it, in their order, each with how many Arrs, Dicts and Streams it stands in.
type standing struct {
	o     api.Obj
	depth int
}

func allStanding(o api.Obj, depth int) []standing {
	l := []standing{{o, depth}}
	for _, k := range inside(o) {
		l = append(l, allStanding(k, depth+1)...)
	}
	return l
}

// inside is the objects that stand right in one.
func inside(o api.Obj) []api.Obj {
	switch o.Kind {
	case api.Arr:
		return o.L
	case api.Dict, api.Stream:
		var l []api.Obj
		for _, e := range o.D {
			l = append(l, e.V)
		}
		return l
	}
	return nil
}

func (s standing) wrongArg() bool {
	o := s.o
	if o.Kind < 0 || o.Kind > 8 {
		return true
	}
	thousandths := o.F-o.F/1000*1000 != 0
	keys := map[string]bool{}
	wrong := false
	if o.Kind == api.Dict || o.Kind == api.Stream {
		for _, e := range o.D {
			wrong = wrong || keys[e.Key] || e.V.Kind == api.Null
			keys[e.Key] = true
		}
	}
	return [9]bool{
		api.Bool:   o.N*o.N != o.N,
		api.Num:    o.N*o.N != o.N || o.N == 1 && thousandths,
		api.Ref:    o.N < 0 || o.F < 0 || thousandths,
		api.Dict:   wrong,
		api.Stream: wrong || s.depth > 0,
	}[o.Kind]
}

func (s standing) wrongRange() bool {
	o := s.o
	beyond := o.F > 2147483648 || o.F < -2147483648
	return o.Kind == api.Num && beyond || o.Kind == api.Ref && (beyond || o.N > 2147483)
}

func (s standing) wrongDeep() bool {
	return s.depth > 63 && (s.o.Kind == api.Arr || s.o.Kind == api.Dict || s.o.Kind == api.Stream)
}

func wantSane(o api.Obj) api.Errno {
	for _, s := range allStanding(o, 0) {
		switch {
		case s.wrongArg():
			return api.ErrArg
		case s.wrongRange():
			return api.ErrRange
		case len(inside(s.o)) > 1024:
			return api.ErrLarge
		case s.wrongDeep():
			return api.ErrDeep
		}
	}
	return api.OK
}

func wantObject(o api.Obj) (string, api.Errno) {
	if e := wantSane(o); e != api.OK {
		return "", e
	}
	if o.Kind == api.Stream {
		return "", api.ErrArg
	}
	return wantText(o), api.OK
}

func wantIndirect(n, g int, o api.Obj) (string, api.Errno) {
	switch {
	case min(n, g) < 0:
		return "", api.ErrArg
	case max(n, g) > 2147483:
		return "", api.ErrRange
	case wantSane(o) != api.OK:
		return "", wantSane(o)
	case o.Kind == api.Stream && (len(o.S) > 1048576 || len(withLength(o)) > 1024):
		return "", api.ErrLarge
	}
	return fmt.Sprintf("%d %d obj\n%s\nendobj\n", n, g, wantText(o)), api.OK
}

// withLength is a Stream's entries with the Length that it has.
func withLength(o api.Obj) []api.Entry {
	d := append([]api.Entry{}, o.D...)
	for i := range d {
		if d[i].Key == "Length" {
			d[i].V = whole(len(o.S))
			return d
		}
	}
	return append(d, entry("Length", whole(len(o.S))))
}

func wantText(o api.Obj) string {
	switch o.Kind {
	case api.Bool:
		return fmt.Sprint(o.N == 1)
	case api.Num:
		return wantNum(o)
	case api.Name:
		return wantName(o.S)
	case api.Str:
		return wantStr(o.S)
	case api.Ref:
		return fmt.Sprintf("%d %d R", o.N, o.F/1000)
	case api.Arr:
		var l []string
		for _, k := range o.L {
			l = append(l, wantText(k))
		}
		return "[" + strings.Join(l, " ") + "]"
	case api.Dict:
		var l []string
		for _, e := range o.D {
			l = append(l, wantName(e.Key), wantText(e.V))
		}
		return "<<" + strings.Join(l, " ") + ">>"
	case api.Stream:
		return wantText(dict(withLength(o)...)) + "\nstream\n" + o.S + "\nendstream"
	}
	return "null"
}

func wantNum(o api.Obj) string {
	s := fmt.Sprintf("%+.4d", o.F)
	s = strings.TrimPrefix(s[:len(s)-3], "+") + "." + s[len(s)-3:]
	s = strings.TrimRight(s, "0")
	if strings.HasSuffix(s, ".") {
		s += "0"
	}
	if o.N == 1 {
		return strings.TrimSuffix(s, ".0")
	}
	return s
}

func wantName(s string) string {
	out := "/"
	for _, b := range []byte(s) {
		if b < 33 || b > 126 || strings.IndexByte("()<>[]{}/%#", b) >= 0 {
			out += fmt.Sprintf("#%02X", b)
		} else {
			out += string(rune(b))
		}
	}
	return out
}

func wantStr(s string) string {
	out := "("
	for _, b := range []byte(s) {
		escape := map[byte]string{10: "n", 13: "r", 9: "t", 8: "b", 12: "f", '(': "(", ')': ")", 92: "\\"}[b]
		switch {
		case escape != "":
			out += "\\" + escape
		case b < 32 || b > 126:
			out += fmt.Sprintf("\\%03o", b)
		default:
			out += string(rune(b))
		}
	}
	return out + ")"
}
